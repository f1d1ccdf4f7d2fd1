/-
  The contract of the statement WireBack.
-/
import Derived.Test.YtefonoaffeahjaaBackC
import Derived.Deep.RegionHeld3
namespace Go.Proofs.Ytefonoaffeahjaa
open Go.RowKit

def par (u : Int) : Bool := u.tmod 2 == 0
def encPair (u : Int) : List UInt8 := encI u ++ encB (par u)

theorem encPair_eq (u : Int) : encPair u = encI u ++ encB (par u) := rfl

theorem encPair_bound (u : Int) (h0 : -9223372036854775808 ≤ u) (h1 : u ≤ 9223372036854775807) : (encPair u).length ≤ 20 := by
  unfold encPair
  rw [List.length_append]
  have a := encI_bound u h0 h1
  have b : (encB (par u)).length ≤ 10 := by
    cases par u
    · exact encI_bound 0 (by omega) (by omega)
    · exact encI_bound 1 (by omega) (by omega)
  omega

theorem decB_enc (t : Bool) (r : List UInt8) : decI 0 1 (encB t ++ r) = some (if t then 1 else 0, r) := by
  cases t
  · exact decI_encI 0 1 0 r (by omega) (by omega) (by omega) (by omega)
  · exact decI_encI 0 1 1 r (by omega) (by omega) (by omega) (by omega)

theorem read_int_at (g : Nat) (u : Int) (r : List UInt8) (w : World) (h0 : -9223372036854775808 ≤ u) (h1 : u ≤ 9223372036854775807) (h : Rdr w g (encI u ++ r) false) (hl : (encI u ++ r).length ≤ 1000000000000) :
    Calls Try.prog 27 #[.pointer (some ⟨g, 0, none⟩), .int .i64 u, .int .i64 u] w fun e w' => e = .returned (.int .i64 u) ∧ w.grownBy w' (some g) ∧ Rdr w' g r false := by
  refine (method_int g _ false u u w h hl).mono fun e w' he => ?_
  rw [decI_encI u u u r h0 h1 (by omega) (by omega)] at he
  obtain ⟨hg, y, rfl, rfl, hr⟩ := he
  exact ⟨rfl, hg, hr⟩

theorem read_bool_at (g : Nat) (t : Bool) (r : List UInt8) (w : World) (h : Rdr w g (encB t ++ r) false) (hl : (encB t ++ r).length ≤ 1000000000000) :
    Calls Try.prog 28 #[.pointer (some ⟨g, 0, none⟩)] w fun e w' => e = .returned (.bool t) ∧ w.grownBy w' (some g) ∧ Rdr w' g r false := by
  refine (method_bool g _ _ r w h hl (decB_enc t r)).mono fun e w' ⟨h1, h2, h3⟩ => ⟨?_, h2, h3⟩
  rw [h1]
  cases t <;> rfl

theorem read_text_at (g : Nat) (s r : List UInt8) (w : World) (hs : s.length ≤ 1000000000) (h : Rdr w g (encT s ++ r) false) (hl : (encT s ++ r).length ≤ 1000000000000) :
    Calls Try.prog 29 #[.pointer (some ⟨g, 0, none⟩), .int .i64 s.length] w fun e w' => e = .returned (.string (str s)) ∧ w.grownBy w' (some g) ∧ Rdr w' g r false := by
  refine (method_Text g _ false s.length w h hl).mono fun e w' he => ?_
  rw [decT_encT s.length s r (by omega) (by omega)] at he
  obtain ⟨hg, y, rfl, rfl, hr⟩ := he
  exact ⟨rfl, hg, hr⟩

theorem encs_drop {α : Type} (e : α → List UInt8) {xs : List α} {k : Nat} {u : α} (h : xs[k]? = some u) : encs e (xs.drop k) = e u ++ encs e (xs.drop (k + 1)) := by
  obtain ⟨hl, he⟩ := List.getElem?_eq_some_iff.1 h
  rw [List.drop_eq_getElem_cons hl, he, encs]

theorem room_more {bs : List UInt8} {u : Int} (h : bs.length ≤ 20000) (hu : -9223372036854775808 ≤ u ∧ u ≤ 9223372036854775807) : (bs ++ encI u).length + 10 ≤ 1000000000000 := by
  rw [List.length_append]
  have := encI_bound u hu.1 hu.2
  omega

set_option maxHeartbeats 4000000 in
set_option maxRecDepth 100000 in
theorem wireBack_main (lv tv rv : Value) (xs : List Int) (ys : List (List UInt8)) (rs : List UInt8) (w : World)
    (hl : Arr iv w w.heap.size lv xs) (hx : ∀ x ∈ xs, -9223372036854775808 ≤ x ∧ x ≤ 9223372036854775807) (ht : Arr sv w w.heap.size tv ys) (hr : Sl w w.heap.size rv rs)
    (h40 : xs.length ≤ 40) (hf : fewB ys 30 200 = true) (h300 : rs.length ≤ 300) :
    Calls Try.prog 4 #[lv, tv, rv] w fun e w' => e = .returned (.bool true) ∧ Below w.heap.size w w' := by
  obtain ⟨h30, h200⟩ := fewB_true hf
  have lb2 : (encList encI xs).length ≤ 1000 := by
    unfold encList; rw [List.length_append]
    have i1 := encI_bound xs.length (by omega) (by omega)
    have i2 := encs_bound encI 10 xs (fun x h => encI_bound x (hx x h).1 (hx x h).2)
    omega
  have lc2 : (encList encT ys).length ≤ 10000 := by
    unfold encList; rw [List.length_append]
    have i1 := encI_bound ys.length (by omega) (by omega)
    have i2 := encs_bound encT 210 ys (fun x h => by have j1 := h200 x h; have j2 := encT_bound x (by omega); omega)
    omega
  have lp2 : ∀ k, (encs encPair (xs.take k)).length ≤ 1000 := fun k => by
    have i1 := encs_le encPair xs k
    have i2 := encs_bound encPair 20 xs (fun x h => encPair_bound x (hx x h).1 (hx x h).2)
    omega
  have lt2 : ∀ k, (encs encT (ys.take k)).length ≤ 10000 := fun k => by
    have i1 := encs_le encT ys k
    have i2 := encs_bound encT 210 ys (fun x h => by have j1 := h200 x h; have j2 := encT_bound x (by omega); omega)
    omega
  obtain ⟨Al, n, cl, rfl⟩ := hl.form
  obtain ⟨At, m, ct, rfl⟩ := ht.form
  obtain ⟨Ar, cr, rfl⟩ := hr.form
  have hn := hl.len
  have hm := ht.len
  have hn40 : (n : Int) ≤ 40 := by omega
  have hn40' : n ≤ 40 := by omega
  have hm30 : m ≤ 30 := by omega
  obtain ⟨q, hq⟩ : ∃ q, rs.length = q := ⟨_, rfl⟩
  rw [hq] at hr h300 ⊢
  have hq3 : (q : Int) ≤ 300 := by omega
  have HN := Lib.hid hn
  have HM := Lib.hid hm
  have HQ := Lib.hid hq
  have LP := Lib.hid lp2
  have LT := Lib.hid lt2
  clear hn hm hq lp2 lt2
  go_enter Try.func4, Try.ntmps4
  go_wp2_with fail
  refine (awake_any w).mono ?_
  rintro e w1 ⟨rfl, hg1⟩
  have hb1 := below_of_grown hg1
  go_wp2_with fail
  refine (few_any _ ys 30 200 _ _ (ht.below hb1) (by omega)).mono ?_
  rintro e wd ⟨rfl, rfl⟩
  rw [hf]
  clear hg1 hf
  go_wp2_with fail
  refine (ints_own _ _ [] xs w1.heap.size w1 hx (World.ownsRow_nil _ _ _ _) ((hl.below hb1).more hb1.size) (Nat.le_refl _) (by rw [List.nil_append]; omega) (by omega)).mono ?_
  rintro e w2 ⟨v2, rfl, hown2, hb2⟩
  rw [List.nil_append] at hown2
  have hbw2 := hb1.trans (hb2.mono hb1.size)
  go_wp2_with fail
  refine (texts_own _ _ (encList encI xs) ys w1.heap.size w2 hown2 ((ht.below hbw2).more hb1.size) hb2.size (by rw [List.length_append]; omega) (by omega)).mono ?_
  rintro e w3 ⟨v3, rfl, hown3, hb3⟩
  replace hb3 := hb2.trans hb3
  clear hown2 hb2 hbw2
  go_wp2_with fail
  go_loopw [7, 8] (fun vb vi wr => ∃ k : Nat, k ≤ n ∧ vi = .int .i64 k ∧ wr.ownsRow w1.heap.size 5 1 vb (encList encI xs ++ encList encT ys ++ encs encPair (xs.take k)).length ((encList encI xs ++ encList encT ys ++ encs encPair (xs.take k)).map bv) ∧ Below w1.heap.size w1 wr) (fun _ vi _ => n - (intOf vi).toNat)
  case atStart => exact ⟨0, by omega, rfl, by simpa [encs] using hown3, hb3⟩
  case round =>
    obtain ⟨k, hk, rfl, hownr, hbr⟩ := hrel
    have hbwr := hb1.trans (hbr.mono hb1.size)
    by_cases hkn : k < n
    · obtain ⟨b, off, u, rfl, hbB, hu, hcell⟩ := (hl.below hbwr).at2 hkn
      simp only [iv] at hcell
      have hub := hx u (List.mem_of_getElem? hu)
      have hlen0 : (encList encI xs ++ encList encT ys ++ encs encPair (xs.take k)).length ≤ 20000 := by
        have := LP.out k
        simp only [List.length_append] at this ⊢
        omega
      have hbase2 : w1.heap.size ≤ wr.heap.size := hbr.size
      have hbB1 : b < w1.heap.size := by have := hb1.size; omega
      have HT := Lib.hid (encs_take encPair xs hu)
      have hk0 : (0 : Int) ≤ (k : Int) := by omega
      clear hu hbwr
      go_wp2_with fail
      go_region_held3 (fun w' => w'.cell? ⟨b, off + k, none⟩ = some (.int .i64 u)) (first | exact hcell | exact ((hbI.trans hbJ).cell hbB1).trans hcell | exact (hbI.cell hbB1).trans hcell) (first | (go_at_call 21; go_must (refine (int_own _ (encList encI xs ++ encList encT ys ++ encs encPair (xs.take k)) u w1.heap.size _ hub.1 hub.2 ?_ ?_ ?_).mono ?_); go_must (exact hownr); go_must (exact hbase2); go_must (omega); rintro e wI ⟨vI, rfl, hownI, hbI⟩) | (go_at_call 20; go_must (refine (bool_own _ (encList encI xs ++ encList encT ys ++ encs encPair (xs.take k) ++ encI u) _ w1.heap.size _ ?_ ?_ ?_).mono ?_); go_must (exact hownI); go_must (exact (Nat.le_trans hbase2 hbI.size)); go_must (exact room_more hlen0 hub); rintro e wJ ⟨vJ, rfl, hownJ, hbJ⟩))
      go_wp2_with fail
      have e1 : encList encI xs ++ encList encT ys ++ encs encPair (xs.take (k + 1)) = encList encI xs ++ encList encT ys ++ encs encPair (xs.take k) ++ encI u ++ encB (par u) := by
        rw [HT.out]; unfold encPair; simp only [List.append_assoc]
      go_roundw
      case rel => exact ⟨k + 1, by omega, value_int (by omega), by rw [e1]; exact hownJ, hbr.trans ((Below.drew (Below.refl _ wr)).trans (hbI.trans hbJ))⟩
      case measure => simp [intOf]; omega
    · have hkn' : k = n := by omega
      subst hkn'
      clear hkn hk
      have hn := HN.out
      rw [List.take_of_length_le (by omega)] at hownr
      obtain ⟨E1, hE1⟩ : ∃ E1, encList encI xs ++ encList encT ys ++ encs encPair xs = E1 := ⟨_, rfl⟩
      have hE1l : E1.length ≤ 20000 := by
        have := LP.out xs.length
        rw [List.take_length] at this
        rw [← hE1]
        simp only [List.length_append]
        omega
      rw [hE1] at hownr
      have HE1 := Lib.hid hE1
      clear hE1 hn
      obtain ⟨wA, rfl⟩ : ∃ wo : World, wo = wr := ⟨_, rfl⟩
      go_wp2_with fail
      go_loopw [7, 9] (fun vb vi wr => ∃ j : Nat, j ≤ m ∧ vi = .int .i64 j ∧ wr.ownsRow w1.heap.size 5 1 vb (E1 ++ encs encT (ys.take j)).length ((E1 ++ encs encT (ys.take j)).map bv) ∧ Below w1.heap.size w1 wr) (fun _ vi _ => m - (intOf vi).toNat)
      case atStart => exact ⟨0, by omega, rfl, by simpa [encs] using hownr, hbr⟩
      case round =>
        obtain ⟨j, hj, rfl, hown5, hb5⟩ := hrel
        have hbw5 := hb1.trans (hb5.mono hb1.size)
        by_cases hjm : j < m
        · obtain ⟨b, off, u, rfl, hbB, hu, hcell⟩ := (ht.below hbw5).at2 hjm
          simp only [sv] at hcell
          have hlen5 : (E1 ++ encs encT (ys.take j)).length + u.length + 10 ≤ 1000000000000 := by
            have a := LT.out j
            have b := h200 u (List.mem_of_getElem? hu)
            rw [List.length_append]
            omega
          have hbase5 : w1.heap.size ≤ wr.heap.size := hb5.size
          have HT := Lib.hid (encs_take encT ys hu)
          clear hu hbw5
          go_wp2_with fail
          refine (text_own _ _ u w1.heap.size wr hown5 hbase5 hlen5).mono ?_
          rintro e w6 ⟨v6, rfl, hown6, hb6⟩
          go_wp2_with fail
          have e1 : E1 ++ encs encT (ys.take (j + 1)) = E1 ++ encs encT (ys.take j) ++ encT u := by rw [HT.out, List.append_assoc]
          go_roundw
          case rel => exact ⟨j + 1, by omega, value_int (by omega), by rw [e1]; exact hown6, hb5.trans hb6⟩
          case measure => simp [intOf]; omega
        · have hjm' : j = m := by omega
          subst hjm'
          clear hjm hj
          have hm := HM.out
          rw [List.take_of_length_le (by omega)] at hown5
          have hE2l : (E1 ++ encs encT ys).length ≤ 40000 := by
            have := LT.out ys.length
            rw [List.take_length] at this
            rw [List.length_append]
            omega
          clear hm
          obtain ⟨wB, rfl⟩ : ∃ wo : World, wo = wr := ⟨_, rfl⟩
          have hs5 := Sl.of_own hown5
          go_wp2_with fail
          refine (behind_any _ _ _ _ wB.heap.size w.heap.size wB hs5 (hr.below hbw5) (Nat.le_refl _) hbw5.size (by omega) (by rw [HQ.out]; omega)).mono ?_
          rintro e w6 ⟨v6, rfl, hown6, hb6⟩
          have hl6 : (E1 ++ encs encT ys ++ rs).length ≤ 50000 := by rw [List.length_append, HQ.out]; omega
          have hbw6 := hbw5.trans (hb6.mono hbw5.size)
          go_wp2_with fail
          refine (from_any _ _ w6.heap.size w6 (Sl.of_own hown6) (by omega)).mono ?_
          rintro e w7 ⟨g, v7, rfl, hge, hbox, hsl, hgr⟩
          have hrd : Rdr w7 g (E1 ++ encs encT ys ++ rs) false := ⟨v7, hbox, hsl⟩
          have hbw7 := below_grown hbw6 hgr (Nat.le_refl _) (by simp)
          have hgB : w.heap.size ≤ g := by have := hbw6.size; omega
          clear hown5 hs5 hown6 hb6 hge hbox hsl hgr hbw6 hb5 hbw5 hownr hbr
          have hD1 : E1 ++ encs encT ys ++ rs = encList encI xs ++ (encList encT ys ++ (encs encPair xs ++ (encs encT ys ++ rs))) := by rw [← HE1.out]; simp only [List.append_assoc]
          have hdec1 : decList (decI (-9223372036854775808) 9223372036854775807) 40 (E1 ++ encs encT ys ++ rs) = some (xs, encList encT ys ++ (encs encPair xs ++ (encs encT ys ++ rs))) := by
            rw [hD1]
            exact decList_enc _ encI 40 xs _ (by omega) (by omega) (fun x hx' r => decI_encI _ _ x r (hx x hx').1 (hx x hx').2 (hx x hx').1 (hx x hx').2)
          have HD1 := Lib.hid hdec1
          clear hD1 hdec1
          go_wp2_with fail
          refine (method_Ints g _ false 40 _ _ w7 hrd (by omega)).mono ?_
          intro e w8 he
          rw [HD1.out] at he
          obtain ⟨hg8, y8, rfl, hy8, hrd8⟩ := he
          have hbw8 := below_grown hbw7 hg8 (Nat.le_refl _) (by intro g e; injection e with e; omega)
          clear hrd hbw7 hg8
          go_wp2_with fail
          refine (sameInts_eq _ _ xs w8.heap.size w.heap.size w8 (Arr.of_own hy8) (hl.below hbw8) (by omega)).mono ?_
          rintro e wd ⟨rfl, q8, rfl⟩
          have hrd9 := hrd8.grown (grown_drewN w8 q8 none)
          have hbw9 := below_drewN hbw8 q8
          clear hy8 hrd8 hbw8
          have hdec2 : decList (decT 200) 30 (encList encT ys ++ (encs encPair xs ++ (encs encT ys ++ rs))) = some (ys, encs encPair xs ++ (encs encT ys ++ rs)) :=
            decList_enc _ encT 30 ys _ (by omega) (by omega) (fun x hx' r => decT_encT 200 x r (by have := h200 x hx'; omega) (by have := h200 x hx'; omega))
          have HD2 := Lib.hid hdec2
          clear hdec2
          have hl9 : (encList encT ys ++ (encs encPair xs ++ (encs encT ys ++ rs))).length ≤ 1000000000000 := by
            rw [← HE1.out] at hl6
            simp only [List.length_append] at hl6 ⊢
            omega
          go_wp2_with fail
          refine (method_Texts g _ false 30 200 _ hrd9 hl9).mono ?_
          intro e w10 he
          rw [HD2.out] at he
          obtain ⟨hg10, y10, rfl, hy10, hrd10⟩ := he
          have hbw10 := below_grown hbw9 hg10 (Nat.le_refl _) (by intro g e; injection e with e; omega)
          clear hrd9 hbw9 hg10
          go_wp2_with fail
          refine (sameTexts_eq _ _ ys w10.heap.size w.heap.size w10 (Arr.of_own hy10) (ht.below hbw10) (by omega)).mono ?_
          rintro e wd ⟨rfl, q10, rfl⟩
          have hrd11 := hrd10.grown (grown_drewN w10 q10 none)
          have hbw11 := below_drewN hbw10 q10
          clear hy10 hrd10 hbw10 hl9 HD1 HD2
          go_wp2_with fail
          go_loopw [13] (fun vi wr => ∃ i : Nat, i ≤ k ∧ vi = .int .i64 i ∧ Rdr wr g (encs encPair (xs.drop i) ++ (encs encT ys ++ rs)) false ∧ Below w.heap.size w wr) (fun vi _ => k - (intOf vi).toNat)
          case atStart => exact ⟨0, by omega, rfl, hrd11, hbw11⟩
          case round =>
            obtain ⟨i, hi, rfl, hrdr, hbw⟩ := hrel
            by_cases hik : i < k
            · obtain ⟨b, off, u, rfl, hbB, hu, hcell⟩ := (hl.below hbw).at2 hik
              simp only [iv] at hcell
              have hub := hx u (List.mem_of_getElem? hu)
              have hsplit := encs_drop encPair hu
              have hlt : (encs encPair (xs.drop i) ++ (encs encT ys ++ rs)).length ≤ 1000000000000 := by
                have a := LP.out xs.length
                have b := LT.out ys.length
                have c := congrArg (fun l => (encs encPair l).length) (List.take_append_drop i xs)
                simp only [encs_append, List.length_append] at c
                rw [List.take_length] at a b
                have d := HQ.out
                simp only [List.length_append]
                omega
              rw [hsplit, encPair_eq, List.append_assoc, List.append_assoc] at hrdr hlt
              have hlt2 : (encB (par u) ++ (encs encPair (xs.drop (i + 1)) ++ (encs encT ys ++ rs))).length ≤ 1000000000000 := by
                rw [List.length_append] at hlt; omega
              have hbg : b ≠ g := by omega
              have hpar : (u.tmod 2 == 0) = par u := rfl
              clear hu hsplit
              go_wp2_with fail
              go_region_held3 (fun w' => w'.cell? ⟨b, off + i, none⟩ = some (.int .i64 u)) (first | exact hcell | exact hgJ.cell (hgI.cell hcell (by intro e; injection e with e; exact hbg e)) (by intro e; injection e with e; exact hbg e) | exact hgI.cell hcell (by intro e; injection e with e; exact hbg e)) (first | (go_at_call 27; go_must (refine (read_int_at g u (encB (par u) ++ (encs encPair (xs.drop (i + 1)) ++ (encs encT ys ++ rs))) _ hub.1 hub.2 ?_ ?_).mono ?_); go_must (exact hrdr); go_must (exact hlt); rintro e wI ⟨rfl, hgI, hrI⟩) | (go_at_call 28; go_must (refine (read_bool_at g (par u) (encs encPair (xs.drop (i + 1)) ++ (encs encT ys ++ rs)) _ ?_ ?_).mono ?_); go_must (exact hrI); go_must (exact hlt2); rintro e wJ ⟨rfl, hgJ, hrJ⟩))
              go_wp2_with fail
              go_roundw
              case rel => exact ⟨i + 1, by omega, value_int (by omega), hrJ, below_grown (below_grown hbw.drew hgI (Nat.le_refl _) (by intro g e; injection e with e; omega)) hgJ (Nat.le_refl _) (by intro g e; injection e with e; omega)⟩
              case measure => simp [intOf]; omega
            · have hik' : i = k := by omega
              subst hik'
              clear hik hi
              have hn := HN.out
              rw [List.drop_of_length_le (by omega)] at hrdr
              have hrd12 : Rdr wr g (encs encT ys ++ rs) false := hrdr
              clear hrdr hn hrd11 hbw11
              obtain ⟨wC, rfl⟩ : ∃ wo : World, wo = wr := ⟨_, rfl⟩
              go_wp2_with fail
              go_loopw [14] (fun vi wr => ∃ p : Nat, p ≤ j ∧ vi = .int .i64 p ∧ Rdr wr g (encs encT (ys.drop p) ++ rs) false ∧ Below w.heap.size w wr) (fun vi _ => j - (intOf vi).toNat)
              case atStart => exact ⟨0, by omega, rfl, hrd12, hbw⟩
              case round =>
                obtain ⟨p, hp, rfl, hrdp, hbwp⟩ := hrel
                by_cases hpj : p < j
                · obtain ⟨b, off, u, rfl, hbB, hu, hcell⟩ := (ht.below hbwp).at2 hpj
                  simp only [sv] at hcell
                  have hul := h200 u (List.mem_of_getElem? hu)
                  have hsplit := encs_drop encT hu
                  have hlt : (encs encT (ys.drop p) ++ rs).length ≤ 1000000000000 := by
                    have b := LT.out ys.length
                    have c := congrArg (fun l => (encs encT l).length) (List.take_append_drop p ys)
                    simp only [encs_append, List.length_append] at c
                    rw [List.take_length] at b
                    have d := HQ.out
                    simp only [List.length_append]
                    omega
                  rw [hsplit, List.append_assoc] at hrdp hlt
                  have hbg : b ≠ g := by omega
                  have hsz : (str u).size = u.length := rfl
                  have hu9 : u.length ≤ 1000000000 := by omega
                  clear hu hsplit
                  go_wp2_with fail
                  go_region_held3 (fun w' => w'.cell? ⟨b, off + p, none⟩ = some (.string (str u))) (first | exact hcell | exact hgI.cell hcell (by intro e; injection e with e; exact hbg e)) (first | (go_at_call 29; go_must (refine (read_text_at g u (encs encT (ys.drop (p + 1)) ++ rs) _ hu9 ?_ ?_).mono ?_); go_must (exact hrdp); go_must (exact hlt); rintro e wI ⟨rfl, hgI, hrI⟩))
                  go_wp2_with fail
                  go_roundw
                  case rel => exact ⟨p + 1, by omega, value_int (by omega), hrI, below_grown hbwp.drew hgI (Nat.le_refl _) (by intro g e; injection e with e; omega)⟩
                  case measure => simp [intOf]; omega
                · have hpj' : p = j := by omega
                  subst hpj'
                  clear hpj hp
                  have hm := HM.out
                  rw [List.drop_of_length_le (by omega)] at hrdp
                  have hrd13 : Rdr wr g rs false := hrdp
                  clear hrdp hm
                  go_wp2_with fail
                  refine (rest_len g q rs false _ hrd13 HQ.out).mono ?_
                  rintro e wd ⟨rfl, rfl⟩
                  go_wp2_with fail
                  refine (done_any g rs false _ hrd13).mono ?_
                  rintro e wd ⟨rfl, rfl⟩
                  by_cases hq0 : q = 0
                  · have hdv : doneVal false rs = 0 := by
                      have := HQ.out
                      cases rs with
                      | nil => rfl
                      | cons c t => simp at this; omega
                    rw [hdv]
                    go_wp2_with fail
                    go_ret
                    exact ⟨rfl, hbwp⟩
                  · have hdv : doneVal false rs = 5 := by
                      have := HQ.out
                      cases rs with
                      | nil => simp at this; omega
                      | cons c t => rfl
                    rw [hdv]
                    have hz : ((q : Int) == 0) = false := by simp; omega
                    go_wp2_with fail
                    go_ret
                    exact ⟨rfl, hbwp⟩

set_option maxHeartbeats 1600000 in
set_option maxRecDepth 100000 in
theorem wireBack_away (lv tv rv : Value) (xs : List Int) (ys : List (List UInt8)) (rs : List UInt8) (w : World)
    (hl : Arr iv w w.heap.size lv xs) (ht : Arr sv w w.heap.size tv ys) (hr : Sl w w.heap.size rv rs) (hm : ys.length ≤ 9223372036854775807) (h : ¬ (xs.length ≤ 40 ∧ fewB ys 30 200 = true ∧ rs.length ≤ 300)) :
    Calls Try.prog 4 #[lv, tv, rv] w fun e w' => e = .returned (.bool true) ∧ Below w.heap.size w w' := by
  obtain ⟨Al, n, cl, rfl⟩ := hl.form
  have hn := hl.len
  obtain ⟨Ar, cr, rfl⟩ := hr.form
  obtain ⟨q, hq⟩ : ∃ q, rs.length = q := ⟨_, rfl⟩
  rw [hn, hq] at h
  rw [hq] at hr ⊢
  clear hn hq
  by_cases h40 : 40 < n
  · have h40' : (40 : Int) < (n : Int) := by omega
    clear h
    go_enter Try.func4, Try.ntmps4
    go_wp2_with fail
    refine (awake_any w).mono ?_
    rintro e w1 ⟨rfl, hg1⟩
    go_wp2_with fail
    go_ret
    exact ⟨rfl, below_of_grown hg1⟩
  · have h40' : (n : Int) ≤ 40 := by omega
    cases hf : fewB ys 30 200 with
    | false =>
      clear h
      go_enter Try.func4, Try.ntmps4
      go_wp2_with fail
      refine (awake_any w).mono ?_
      rintro e w1 ⟨rfl, hg1⟩
      go_wp2_with fail
      refine (few_any tv ys 30 200 _ _ (ht.below (below_of_grown hg1)) hm).mono ?_
      rintro e wd ⟨rfl, rfl⟩
      rw [hf]
      clear hf
      go_wp2_with fail
      go_ret
      exact ⟨rfl, below_of_grown hg1⟩
    | true =>
      have hq : 300 < q := by
        by_cases h3 : 300 < q
        · exact h3
        · exact absurd ⟨by omega, hf, by omega⟩ h
      have hq' : (300 : Int) < (q : Int) := by omega
      clear h
      go_enter Try.func4, Try.ntmps4
      go_wp2_with fail
      refine (awake_any w).mono ?_
      rintro e w1 ⟨rfl, hg1⟩
      go_wp2_with fail
      refine (few_any tv ys 30 200 _ _ (ht.below (below_of_grown hg1)) hm).mono ?_
      rintro e wd ⟨rfl, rfl⟩
      rw [hf]
      clear hf
      go_wp2_with fail
      go_ret
      exact ⟨rfl, below_of_grown hg1⟩

theorem wireBack_any (lv tv rv : Value) (xs : List Int) (ys : List (List UInt8)) (rs : List UInt8) (w : World)
    (hl : Arr iv w w.heap.size lv xs) (hx : ∀ x ∈ xs, -9223372036854775808 ≤ x ∧ x ≤ 9223372036854775807) (ht : Arr sv w w.heap.size tv ys) (hr : Sl w w.heap.size rv rs) (hm : ys.length ≤ 9223372036854775807) :
    Calls Try.prog 4 #[lv, tv, rv] w fun e w' => e = .returned (.bool true) ∧ Below w.heap.size w w' := by
  by_cases h : xs.length ≤ 40 ∧ fewB ys 30 200 = true ∧ rs.length ≤ 300
  · exact wireBack_main lv tv rv xs ys rs w hl hx ht hr h.1 h.2.1 h.2.2
  · exact wireBack_away lv tv rv xs ys rs w hl ht hr hm h

end Go.Proofs.Ytefonoaffeahjaa
