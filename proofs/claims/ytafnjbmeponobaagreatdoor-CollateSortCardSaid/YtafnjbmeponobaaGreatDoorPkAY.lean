/-
  The reference's single of collate: a letter with a search form.
  The numbers of this program for the library's contracts of strings.Builder and strings.Join.
-/
import Derived.Test.YtafnjbmeponobaaGreatDoorCoSingle
import Derived.Deep.RegionHeld3
import Derived.Test.YtafnjbmeponobaaGreatDoorProg
import Derived.WalkKit
import Derived.Shelf.Strings.BuilderK
import Derived.Shelf.Strings.OnBuilder
namespace Go.Proofs.YtafnjbmeponobaaGreatDoor
open Go.RowKit

theorem info_elem : (Tryz.prog.info? 71).map (fun i => (i.zero, i.size, i.bytes)) = some (some (.agg #[.int .i64 0, .int .i64 0, .int .i64 0]), 3, 24) := by kernel_rfl
def lateB (c : Nat) : Bool := !Nat.beq (kN c) 4 && !Nat.beq (kN c) 5 && !Nat.beq (kN c) 3 && !Nat.beq (kN c) 2 && !Nat.beq (scN c) 2 && !(Nat.beq (scN c) 3 && Nat.ble (lowN c) 1103) && !Nat.beq (lowN c) 1108 && !Nat.beq (lowN c) 1110 && !Nat.beq (lowN c) 1169
theorem chars_late : (charL.all fun c => !(is1 (wholeR c) c && lateB c) || (!Nat.beq (scN c) 3 && (seaN c).all fun x => Nat.ble 97 x && Nat.ble x 65535)) = true := by kernel_rfl
theorem late_sea {c : Nat} (hq : Asked c) (hD : Late c) : scN c ≠ 3 ∧ ∀ x ∈ seaN c, 97 ≤ x ∧ x ≤ 65535 := by
  have h := List.all_eq_true.1 chars_late c ((char_mem c).2 hq.has)
  have hl : lateB c = true := by
    obtain ⟨h0, h1, h2, h3, h4, h5, h6, h7, h8⟩ := hD
    unfold lateB
    rw [beq_false h0, beq_false h1, beq_false h2, beq_false h3, beq_false h4, beq_false h6, beq_false h7, beq_false h8]
    cases hx : (Nat.beq (scN c) 3 && Nat.ble (lowN c) 1103) with
    | false => rfl
    | true =>
      rw [Bool.and_eq_true, Nat.beq_eq, Nat.ble_eq] at hx
      exact absurd hx h5
  rw [is1_of hq.whole, hl] at h
  simp only [Bool.and_self, Bool.not_true, Bool.false_or, List.all_eq_true, Bool.and_eq_true, Nat.ble_eq] at h
  refine ⟨fun e => ?_, h.2⟩
  have := h.1
  rw [e] at this
  cases this
theorem late_single {c : Nat} (hD : Late c) : singleL c = latL c := by
  obtain ⟨h0, h1, h2, h3, h4, h5, h6, h7, h8⟩ := hD
  rw [single_open, if_neg h0, if_neg h1, if_neg h2, if_neg h3, if_neg h4, if_neg h5, if_neg h6, if_neg h7, if_neg h8]
theorem late_len {c : Nat} (hq : Asked c) (hD : Late c) : (seaN c).length ≤ 3 := by
  have h := (ok_col hq.has hq.whole).few
  rw [late_single hD] at h
  unfold latL at h
  rwa [List.length_map] at h
theorem enc_col {c : Nat} (h : hasN c = true) : encR [(c : Int)] = some (encL [c]) := by
  unfold encR
  rw [if_pos (by simp [hasN_eq, h])]
  rfl
theorem sea_enc {c : Nat} (h : hasN c = true) : decR (nSearch (encL [c])) = some (seaN c) ∧ (nSearch (encL [c])).length ≤ 3 * (seaN c).length := by
  have e : nSL (encL [c]) = seaN c := by
    unfold nSL nFL seaN
    rw [nL_encL (fun x hx => by rw [List.mem_singleton.1 hx]; exact h)]
  unfold nSearch
  rw [← e]
  exact ⟨dec_enc _ (dec_ok (nSL_dec _)), encL_len _⟩
theorem elem_cells {w : World} {p s t : Int} {y : El} (hp : p = (y.1 : Int)) (hs : s = (y.2.1 : Int)) (ht : t = (y.2.2 : Int)) : ∀ (j : Nat) (u : Value), (ev y)[j]? = some u → (w.alloc (.cells #[.int .i64 p, .int .i64 s, .int .i64 t] 71)).cell? ((⟨w.heap.size, 0, none⟩ : Addr).add j) = some u := by
  subst hp hs ht
  exact cells_made (cs := ev y) w _
def lev (z u : Nat) (x : Nat) : El := (30000 + 100 * (x - 97), z, u)
theorem lev_wrap {z u x : Nat} (h1 : 97 ≤ x) (h2 : x ≤ 65535) : (IntKind.i64.wrap (30000 + IntKind.i64.wrap (100 * IntKind.i64.wrap ((x : Int) - 97))) : Int) = ((lev z u x).1 : Int) := by
  rw [wraps_i64 ((x : Int) - 97) (by omega) (by omega), wraps_i64 (100 * _) (by omega) (by omega), wraps_i64 _ (by omega) (by omega)]
  show _ = ((30000 + 100 * (x - 97) : Nat) : Int)
  omega

set_option maxRecDepth 100000 in
set_option maxHeartbeats 12800000 in
theorem single_late_a (c : Nat) (w : World) (hq : Asked c) (hD : Late c) (hq1 : seaN c = [lowN c]) :
    Calls Tryz.prog 74 #[.int .i64 (c : Int)] w (EndEls w (singleL c)) := by
  have HC := Lib.hid (class_any (c : Int) w)
  have hk : clsR (c : Int) = (scN c, kN c) := by rw [clsF_eq]; rfl
  rw [hk] at HC
  unfold two at HC
  have HL := Lib.hid fun W => refLower_nat c W
  have HCap := Lib.hid fun W => refCapital_any c W
  have HEn := Lib.hid (enc_col hq.has)
  have hb3 : (encL [c]).length ≤ 3 := encL_len [c]
  have HSe := Lib.hid fun W => refSearch_any (encL [c]) W (by omega)
  have hs2 := sea_enc hq.has
  have hsl := late_len hq hD
  have HS1 : Hid (1 ≤ (seaN c).length) := Lib.hid (by
    have h := (ok_col hq.has hq.whole).some
    rw [late_single hD] at h
    unfold latL at h
    rwa [List.length_map] at h)
  have HDe := Lib.hid fun W => refDecode_any (nSearch (encL [c])) W (by omega)
  rw [hs2.1] at HDe
  obtain ⟨b, hb⟩ : ∃ b, nSearch (encL [c]) = b := ⟨_, rfl⟩
  rw [hb] at HSe HDe
  have HQ := Lib.hid (late_sea hq hD).2
  have h9 := (late_sea hq hD).1
  have HR : Hid (singleL c = (seaN c).map (lev 1 (capN c))) := Lib.hid (by
    rw [late_single hD]
    unfold latL
    refine List.map_congr_left fun x _ => ?_
    unfold lev
    rw [hq1, if_pos (is1_of rfl)])
  obtain ⟨R, hR⟩ : ∃ R, singleL c = R := ⟨_, rfl⟩
  rw [hR] at HR ⊢
  clear hR hk hs2 hb
  unfold Late at hD
  obtain ⟨h0, h1, h2, h3, h4, h5, h6, h7, h8⟩ := hD
  obtain ⟨X, hX⟩ : ∃ X, seaN c = X := ⟨_, rfl⟩
  rw [hX] at HDe HQ HR HS1 hsl hq1
  obtain ⟨k, hk⟩ : ∃ k, kN c = k := ⟨_, rfl⟩
  obtain ⟨s, hs⟩ : ∃ s, scN c = s := ⟨_, rfl⟩
  obtain ⟨l, hl⟩ : ∃ l, lowN c = l := ⟨_, rfl⟩
  obtain ⟨u, hu⟩ : ∃ u, capN c = u := ⟨_, rfl⟩
  rw [hu] at HR HCap
  rw [hk, hs] at HC
  rw [hl] at HL h5 h6 h7 h8 hq1
  rw [hk] at h0 h1 h2 h3
  rw [hs] at h4 h5 h9
  clear hk hs hl hu hq hX
  have t0 : ((k : Int) == 4) = false := eqb_false (by omega)
  have t1 : ((k : Int) == 5) = false := eqb_false (by omega)
  have t2 : ((k : Int) == 3) = false := eqb_false (by omega)
  have t3 : ((k : Int) == 2) = false := eqb_false (by omega)
  have t4 : ((s : Int) == 2) = false := eqb_false (by omega)
  have t5 : ((s : Int) == 3) = false := eqb_false (by omega)
  have t6 : ((l : Int) == 1108) = false := eqb_false (by omega)
  have t7 : ((l : Int) == 1110) = false := eqb_false (by omega)
  have t8 : ((l : Int) == 1169) = false := eqb_false (by omega)
  have HB3 := Lib.hid hb3
  clear hb3
  obtain ⟨e0, he0⟩ : ∃ e0, encL [c] = e0 := ⟨_, rfl⟩
  rw [he0] at HEn HSe HB3
  clear he0
  clear h0 h1 h2 h3 h4 h5 h6 h7 h8 h9
  go_enter Tryz.func74, Tryz.ntmps74
  go_wp2_with fail
  refine HC.out.mono ?_
  rintro e w1 ⟨rfl, q, rfl⟩
  have b1 : Below w.heap.size w (w.drewN q) := below_drewN (Below.refl _ _) q
  go_wp2_with fail
  refine (HL.out _).mono ?_
  rintro e w2 ⟨rfl, k2⟩
  have b2 := below_next b1 k2
  go_wp2_with fail
  refine (refEncode_any _ _ _ [(c : Int)] _ (Arr.of_box (val := iv) (Box.made w2 3 #[.int .i64 (c : Int)]) rfl (Nat.le_refl _) (by intro i u hu; cases i with | zero => (simp at hu; subst hu; rfl) | succ i => simp at hu) |>.more (by simp)) (by simp)).mono ?_
  rintro e w3 ⟨he, k3⟩
  rw [HEn.out] at he
  obtain rfl := he
  have b3 := below_next (below_new b2 _) k3
  go_wp2_with fail
  refine (HSe.out _).mono ?_
  rintro e w4 ⟨rfl, k4⟩
  have b4 := below_next b3 k4
  go_wp2_with fail
  refine (HDe.out _).mono ?_
  rintro e w5 ⟨hde, k5⟩
  obtain ⟨A0, n, cc, b', rfl, hcase⟩ := hde.form
  rcases hcase with ⟨rfl, l', hl', hn, hA, -⟩ | ⟨rfl, h, -⟩
  case inr => cases h
  obtain rfl := Option.some.inj hl'
  have b5 := below_next b4 k5
  clear hl' hde HC HEn HSe HDe HL
  have hn1 : 1 ≤ n := by rw [hn]; exact HS1.out
  have hn3 : n ≤ 3 := by rw [hn]; exact hsl
  obtain ⟨a0, o0, rfl, hA0, hca⟩ := hA.some_ (by omega)
  have hn1' : n = 1 := by rw [hn, hq1]; rfl
  have f1 : ((n : Int) == 1) = true := by rw [hn1']; rfl
  have d0 : w5.cell? ⟨a0, o0, none⟩ = some (.int .i64 (l : Int)) := hca 0 l (by rw [hq1]; rfl)
  have f2 : ((l : Int) == (l : Int)) = true := by simp
  have f3 : (0 : Int) < (n : Int) := by omega
  have HN := Lib.hid hn
  clear hn
  go_wp2
  go_loopw [11, 12] (fun v i wr => ∃ k : Nat, k ≤ n ∧ i = .int .i64 (k : Int) ∧ wr.ownsRow w5.heap.size 71 3 v (R.take k).length ((R.take k).flatMap ev) ∧ Below w5.heap.size w5 wr) (fun _ i _ => n - (intOf i).toNat)
  case atStart => exact ⟨0, by omega, rfl, World.ownsRow_nil _ _ _ _, Below.refl _ _⟩
  case round =>
    obtain ⟨k, hk, rfl, hown, hb⟩ := hrel
    have hbs := hb.size
    have hRl : R.length = n := by rw [HR.out, List.length_map, HN.out]
    by_cases hlt : k < n
    · have i1 : decide ((k : Int) < (n : Int)) = true := by simp; omega
      have i1' : decide (k < n) = true := by simpa using hlt
      have kz : (k : Int) < (n : Int) := by omega
      obtain ⟨x, hx⟩ : ∃ x, X[k]? = some x := ⟨_, List.getElem?_eq_getElem (by have := HN.out; omega)⟩
      have d1 : wr.cell? ⟨a0, o0 + k, none⟩ = some (.int .i64 (x : Int)) := (hb.cell (p := ⟨a0, o0 + k, none⟩) hA0).trans (hca k x hx)
      have hx1 := HQ.out x (List.mem_of_getElem? hx)
      have HX : Hid (R.take (k + 1) = R.take k ++ [lev 1 u x]) := Lib.hid (take_next (by rw [HR.out, List.getElem?_map, hx]; rfl))
      have hrl : (R.take k).length ≤ 3 := by rw [List.length_take]; omega
      obtain ⟨O, hO⟩ : ∃ O, R.take k = O := ⟨_, rfl⟩
      rw [hO] at hown HX hrl
      clear hca hx hO
      obtain ⟨A4, c4, h4⟩ := (SArr.of_own ev_len hown).form
      obtain ⟨M, hM⟩ : ∃ M, O.length = M := ⟨_, rfl⟩
      have HM := Lib.hid hM
      rw [hM] at h4 hrl
      subst h4
      clear hM
      have hol : O.length ≤ 1000000000000 - 1 := by rw [HM.out]; omega
      have HA0 : Hid (a0 < wr.heap.size) := Lib.hid (Nat.lt_of_lt_of_le hA0 hbs)
      clear hA hRl
      have HXX := Lib.hid hx1
      have hown0 : wr.drew.ownsRow w5.heap.size 71 3 (.slice A4 M c4) O.length (O.flatMap ev) := hown
      have d10 : wr.drew.cell? ⟨a0, o0 + k, none⟩ = some (.int .i64 (x : Int)) := d1
      have hb0 := hb.drew
      have hbs0 := hb0.size
      have HA1 : Hid (a0 < wr.drew.heap.size) := HA0
      go_wp2
      have HP : Hid ((IntKind.i64.wrap (30000 + IntKind.i64.wrap (100 * IntKind.i64.wrap ((x : Int) - 97))) : Int) = ((lev 1 u x).1 : Int)) := Lib.hid (lev_wrap hx1.1 hx1.2)
      go_region_held3 (fun v => v.cell? ⟨a0, o0 + k, none⟩ = some (.int .i64 (x : Int)))
        (first
          | exact d10
          | exact d6
          | exact (((Below.refl _ _).alloc (Nat.le_refl _) _).cell (p := ⟨a0, o0 + k, none⟩) hlt6).trans d6
          | exact (hb7.cell (p := ⟨a0, o0 + k, none⟩) hA0).trans ((((Below.refl _ _).alloc (Nat.le_refl _) _).cell (p := ⟨a0, o0 + k, none⟩) hlt6).trans d6))
        (first
          | (go_at_call 75; (with_reducible refine (HCap.out _).mono ?_); rintro e w6 ⟨rfl, hb6⟩; have d6 := (hb6.cell (p := ⟨a0, o0 + k, none⟩) HA1.out).trans d10; have hown6 := own_keep_below hown0 hb6; have hb6' := hb0.trans (hb6.mono hbs0); have hlt6 := Nat.lt_of_lt_of_le HA1.out hb6.size; have hbs6 := hb6'.size; have hbs7 := Nat.le_succ_of_le hbs6)
          | (refine step_struct (val := ev) 68 71 (.agg #[.int .i64 0, .int .i64 0, .int .i64 0]) 24 Tryz.underlying68 info_elem rfl (by decide) (by decide) ev_len ev_one _ rfl (.tmp 124) (.tmp 136) rfl w5.heap.size (.slice A4 M c4) O rfl ?_ (lev 1 u x) ⟨w6.heap.size, 0, none⟩ rfl ?_ hol ?_ ?_
             · exact own_keep_below hown6 ((Below.refl _ _).alloc (Nat.le_refl _) _)
             · exact elem_cells HP.out rfl rfl
             · (simp; omega)
             intro v7 w7 hown7 hb7))
      all_goals
        go_wp2
        go_roundw
        case rel => exact ⟨k + 1, by omega, by go_num, (by rw [HX.out]; exact hown7), (hb6'.alloc hbs6 _).trans hb7⟩
        case measure => simp [intOf]; omega
    · obtain rfl : k = n := by omega
      rw [List.take_of_length_le (by omega)] at hown
      have hA2 := SArr.of_own ev_len hown
      have i1 : decide ((k : Int) < (k : Int)) = false := by simp
      have i1' : decide (k < k) = false := by simp
      obtain ⟨A4, c4, h4⟩ := hA2.form
      rw [hRl] at h4
      subst h4
      go_wp2
      go_ret
      exact ⟨_, _, _, rfl, hA2, below_next b5 (hb.mono (Nat.le_refl _))⟩

set_option maxRecDepth 100000 in
set_option maxHeartbeats 12800000 in
theorem single_late_b (c : Nat) (w : World) (hq : Asked c) (hD : Late c) (x0 : Nat) (hq0 : seaN c ≠ [lowN c]) (hq1 : seaN c = [x0]) :
    Calls Tryz.prog 74 #[.int .i64 (c : Int)] w (EndEls w (singleL c)) := by
  have HC := Lib.hid (class_any (c : Int) w)
  have hk : clsR (c : Int) = (scN c, kN c) := by rw [clsF_eq]; rfl
  rw [hk] at HC
  unfold two at HC
  have HL := Lib.hid fun W => refLower_nat c W
  have HCap := Lib.hid fun W => refCapital_any c W
  have HEn := Lib.hid (enc_col hq.has)
  have hb3 : (encL [c]).length ≤ 3 := encL_len [c]
  have HSe := Lib.hid fun W => refSearch_any (encL [c]) W (by omega)
  have hs2 := sea_enc hq.has
  have hsl := late_len hq hD
  have HS1 : Hid (1 ≤ (seaN c).length) := Lib.hid (by
    have h := (ok_col hq.has hq.whole).some
    rw [late_single hD] at h
    unfold latL at h
    rwa [List.length_map] at h)
  have HDe := Lib.hid fun W => refDecode_any (nSearch (encL [c])) W (by omega)
  rw [hs2.1] at HDe
  obtain ⟨b, hb⟩ : ∃ b, nSearch (encL [c]) = b := ⟨_, rfl⟩
  rw [hb] at HSe HDe
  have HQ := Lib.hid (late_sea hq hD).2
  have h9 := (late_sea hq hD).1
  have HR : Hid (singleL c = (seaN c).map (lev 2 (capN c))) := Lib.hid (by
    rw [late_single hD]
    unfold latL
    refine List.map_congr_left fun x _ => ?_
    unfold lev
    rw [if_neg (fun h => hq0 (is1_eq h))])
  obtain ⟨R, hR⟩ : ∃ R, singleL c = R := ⟨_, rfl⟩
  rw [hR] at HR ⊢
  clear hR hk hs2 hb
  unfold Late at hD
  obtain ⟨h0, h1, h2, h3, h4, h5, h6, h7, h8⟩ := hD
  obtain ⟨X, hX⟩ : ∃ X, seaN c = X := ⟨_, rfl⟩
  rw [hX] at HDe HQ HR HS1 hsl hq0 hq1
  obtain ⟨k, hk⟩ : ∃ k, kN c = k := ⟨_, rfl⟩
  obtain ⟨s, hs⟩ : ∃ s, scN c = s := ⟨_, rfl⟩
  obtain ⟨l, hl⟩ : ∃ l, lowN c = l := ⟨_, rfl⟩
  obtain ⟨u, hu⟩ : ∃ u, capN c = u := ⟨_, rfl⟩
  rw [hu] at HR HCap
  rw [hk, hs] at HC
  rw [hl] at HL h5 h6 h7 h8 hq0
  rw [hk] at h0 h1 h2 h3
  rw [hs] at h4 h5 h9
  clear hk hs hl hu hq hX
  have t0 : ((k : Int) == 4) = false := eqb_false (by omega)
  have t1 : ((k : Int) == 5) = false := eqb_false (by omega)
  have t2 : ((k : Int) == 3) = false := eqb_false (by omega)
  have t3 : ((k : Int) == 2) = false := eqb_false (by omega)
  have t4 : ((s : Int) == 2) = false := eqb_false (by omega)
  have t5 : ((s : Int) == 3) = false := eqb_false (by omega)
  have t6 : ((l : Int) == 1108) = false := eqb_false (by omega)
  have t7 : ((l : Int) == 1110) = false := eqb_false (by omega)
  have t8 : ((l : Int) == 1169) = false := eqb_false (by omega)
  have HB3 := Lib.hid hb3
  clear hb3
  obtain ⟨e0, he0⟩ : ∃ e0, encL [c] = e0 := ⟨_, rfl⟩
  rw [he0] at HEn HSe HB3
  clear he0
  clear h0 h1 h2 h3 h4 h5 h6 h7 h8 h9
  go_enter Tryz.func74, Tryz.ntmps74
  go_wp2_with fail
  refine HC.out.mono ?_
  rintro e w1 ⟨rfl, q, rfl⟩
  have b1 : Below w.heap.size w (w.drewN q) := below_drewN (Below.refl _ _) q
  go_wp2_with fail
  refine (HL.out _).mono ?_
  rintro e w2 ⟨rfl, k2⟩
  have b2 := below_next b1 k2
  go_wp2_with fail
  refine (refEncode_any _ _ _ [(c : Int)] _ (Arr.of_box (val := iv) (Box.made w2 3 #[.int .i64 (c : Int)]) rfl (Nat.le_refl _) (by intro i u hu; cases i with | zero => (simp at hu; subst hu; rfl) | succ i => simp at hu) |>.more (by simp)) (by simp)).mono ?_
  rintro e w3 ⟨he, k3⟩
  rw [HEn.out] at he
  obtain rfl := he
  have b3 := below_next (below_new b2 _) k3
  go_wp2_with fail
  refine (HSe.out _).mono ?_
  rintro e w4 ⟨rfl, k4⟩
  have b4 := below_next b3 k4
  go_wp2_with fail
  refine (HDe.out _).mono ?_
  rintro e w5 ⟨hde, k5⟩
  obtain ⟨A0, n, cc, b', rfl, hcase⟩ := hde.form
  rcases hcase with ⟨rfl, l', hl', hn, hA, -⟩ | ⟨rfl, h, -⟩
  case inr => cases h
  obtain rfl := Option.some.inj hl'
  have b5 := below_next b4 k5
  clear hl' hde HC HEn HSe HDe HL
  have hn1 : 1 ≤ n := by rw [hn]; exact HS1.out
  have hn3 : n ≤ 3 := by rw [hn]; exact hsl
  obtain ⟨a0, o0, rfl, hA0, hca⟩ := hA.some_ (by omega)
  have hn1' : n = 1 := by rw [hn, hq1]; rfl
  have f1 : ((n : Int) == 1) = true := by rw [hn1']; rfl
  have d0 : w5.cell? ⟨a0, o0, none⟩ = some (.int .i64 (x0 : Int)) := hca 0 x0 (by rw [hq1]; rfl)
  have f2 : ((x0 : Int) == (l : Int)) = false := eqb_false (fun e => hq0 (by rw [hq1, Int.ofNat.inj e]))
  have f3 : (0 : Int) < (n : Int) := by omega
  have HN := Lib.hid hn
  clear hn
  go_wp2
  go_loopw [11, 12] (fun v i wr => ∃ k : Nat, k ≤ n ∧ i = .int .i64 (k : Int) ∧ wr.ownsRow w5.heap.size 71 3 v (R.take k).length ((R.take k).flatMap ev) ∧ Below w5.heap.size w5 wr) (fun _ i _ => n - (intOf i).toNat)
  case atStart => exact ⟨0, by omega, rfl, World.ownsRow_nil _ _ _ _, Below.refl _ _⟩
  case round =>
    obtain ⟨k, hk, rfl, hown, hb⟩ := hrel
    have hbs := hb.size
    have hRl : R.length = n := by rw [HR.out, List.length_map, HN.out]
    by_cases hlt : k < n
    · have i1 : decide ((k : Int) < (n : Int)) = true := by simp; omega
      have i1' : decide (k < n) = true := by simpa using hlt
      have kz : (k : Int) < (n : Int) := by omega
      obtain ⟨x, hx⟩ : ∃ x, X[k]? = some x := ⟨_, List.getElem?_eq_getElem (by have := HN.out; omega)⟩
      have d1 : wr.cell? ⟨a0, o0 + k, none⟩ = some (.int .i64 (x : Int)) := (hb.cell (p := ⟨a0, o0 + k, none⟩) hA0).trans (hca k x hx)
      have hx1 := HQ.out x (List.mem_of_getElem? hx)
      have HX : Hid (R.take (k + 1) = R.take k ++ [lev 2 u x]) := Lib.hid (take_next (by rw [HR.out, List.getElem?_map, hx]; rfl))
      have hrl : (R.take k).length ≤ 3 := by rw [List.length_take]; omega
      obtain ⟨O, hO⟩ : ∃ O, R.take k = O := ⟨_, rfl⟩
      rw [hO] at hown HX hrl
      clear hca hx hO
      obtain ⟨A4, c4, h4⟩ := (SArr.of_own ev_len hown).form
      obtain ⟨M, hM⟩ : ∃ M, O.length = M := ⟨_, rfl⟩
      have HM := Lib.hid hM
      rw [hM] at h4 hrl
      subst h4
      clear hM
      have hol : O.length ≤ 1000000000000 - 1 := by rw [HM.out]; omega
      have HA0 : Hid (a0 < wr.heap.size) := Lib.hid (Nat.lt_of_lt_of_le hA0 hbs)
      clear hA hRl
      have HXX := Lib.hid hx1
      have hown0 : wr.drew.ownsRow w5.heap.size 71 3 (.slice A4 M c4) O.length (O.flatMap ev) := hown
      have d10 : wr.drew.cell? ⟨a0, o0 + k, none⟩ = some (.int .i64 (x : Int)) := d1
      have hb0 := hb.drew
      have hbs0 := hb0.size
      have HA1 : Hid (a0 < wr.drew.heap.size) := HA0
      go_wp2
      have HP : Hid ((IntKind.i64.wrap (30000 + IntKind.i64.wrap (100 * IntKind.i64.wrap ((x : Int) - 97))) : Int) = ((lev 2 u x).1 : Int)) := Lib.hid (lev_wrap hx1.1 hx1.2)
      go_region_held3 (fun v => v.cell? ⟨a0, o0 + k, none⟩ = some (.int .i64 (x : Int)))
        (first
          | exact d10
          | exact d6
          | exact (((Below.refl _ _).alloc (Nat.le_refl _) _).cell (p := ⟨a0, o0 + k, none⟩) hlt6).trans d6
          | exact (hb7.cell (p := ⟨a0, o0 + k, none⟩) hA0).trans ((((Below.refl _ _).alloc (Nat.le_refl _) _).cell (p := ⟨a0, o0 + k, none⟩) hlt6).trans d6))
        (first
          | (go_at_call 75; (with_reducible refine (HCap.out _).mono ?_); rintro e w6 ⟨rfl, hb6⟩; have d6 := (hb6.cell (p := ⟨a0, o0 + k, none⟩) HA1.out).trans d10; have hown6 := own_keep_below hown0 hb6; have hb6' := hb0.trans (hb6.mono hbs0); have hlt6 := Nat.lt_of_lt_of_le HA1.out hb6.size; have hbs6 := hb6'.size; have hbs7 := Nat.le_succ_of_le hbs6)
          | (refine step_struct (val := ev) 68 71 (.agg #[.int .i64 0, .int .i64 0, .int .i64 0]) 24 Tryz.underlying68 info_elem rfl (by decide) (by decide) ev_len ev_one _ rfl (.tmp 124) (.tmp 136) rfl w5.heap.size (.slice A4 M c4) O rfl ?_ (lev 2 u x) ⟨w6.heap.size, 0, none⟩ rfl ?_ hol ?_ ?_
             · exact own_keep_below hown6 ((Below.refl _ _).alloc (Nat.le_refl _) _)
             · exact elem_cells HP.out rfl rfl
             · (simp; omega)
             intro v7 w7 hown7 hb7))
      all_goals
        go_wp2
        go_roundw
        case rel => exact ⟨k + 1, by omega, by go_num, (by rw [HX.out]; exact hown7), (hb6'.alloc hbs6 _).trans hb7⟩
        case measure => simp [intOf]; omega
    · obtain rfl : k = n := by omega
      rw [List.take_of_length_le (by omega)] at hown
      have hA2 := SArr.of_own ev_len hown
      have i1 : decide ((k : Int) < (k : Int)) = false := by simp
      have i1' : decide (k < k) = false := by simp
      obtain ⟨A4, c4, h4⟩ := hA2.form
      rw [hRl] at h4
      subst h4
      go_wp2
      go_ret
      exact ⟨_, _, _, rfl, hA2, below_next b5 (hb.mono (Nat.le_refl _))⟩

set_option maxRecDepth 100000 in
set_option maxHeartbeats 12800000 in
theorem single_late_c (c : Nat) (w : World) (hq : Asked c) (hD : Late c) (hq0 : seaN c ≠ [lowN c]) (hq1 : (seaN c).length ≠ 1) :
    Calls Tryz.prog 74 #[.int .i64 (c : Int)] w (EndEls w (singleL c)) := by
  have HC := Lib.hid (class_any (c : Int) w)
  have hk : clsR (c : Int) = (scN c, kN c) := by rw [clsF_eq]; rfl
  rw [hk] at HC
  unfold two at HC
  have HL := Lib.hid fun W => refLower_nat c W
  have HCap := Lib.hid fun W => refCapital_any c W
  have HEn := Lib.hid (enc_col hq.has)
  have hb3 : (encL [c]).length ≤ 3 := encL_len [c]
  have HSe := Lib.hid fun W => refSearch_any (encL [c]) W (by omega)
  have hs2 := sea_enc hq.has
  have hsl := late_len hq hD
  have HS1 : Hid (1 ≤ (seaN c).length) := Lib.hid (by
    have h := (ok_col hq.has hq.whole).some
    rw [late_single hD] at h
    unfold latL at h
    rwa [List.length_map] at h)
  have HDe := Lib.hid fun W => refDecode_any (nSearch (encL [c])) W (by omega)
  rw [hs2.1] at HDe
  obtain ⟨b, hb⟩ : ∃ b, nSearch (encL [c]) = b := ⟨_, rfl⟩
  rw [hb] at HSe HDe
  have HQ := Lib.hid (late_sea hq hD).2
  have h9 := (late_sea hq hD).1
  have HR : Hid (singleL c = (seaN c).map (lev 2 (capN c))) := Lib.hid (by
    rw [late_single hD]
    unfold latL
    refine List.map_congr_left fun x _ => ?_
    unfold lev
    rw [if_neg (fun h => hq0 (is1_eq h))])
  obtain ⟨R, hR⟩ : ∃ R, singleL c = R := ⟨_, rfl⟩
  rw [hR] at HR ⊢
  clear hR hk hs2 hb
  unfold Late at hD
  obtain ⟨h0, h1, h2, h3, h4, h5, h6, h7, h8⟩ := hD
  obtain ⟨X, hX⟩ : ∃ X, seaN c = X := ⟨_, rfl⟩
  rw [hX] at HDe HQ HR HS1 hsl hq0 hq1
  obtain ⟨k, hk⟩ : ∃ k, kN c = k := ⟨_, rfl⟩
  obtain ⟨s, hs⟩ : ∃ s, scN c = s := ⟨_, rfl⟩
  obtain ⟨l, hl⟩ : ∃ l, lowN c = l := ⟨_, rfl⟩
  obtain ⟨u, hu⟩ : ∃ u, capN c = u := ⟨_, rfl⟩
  rw [hu] at HR HCap
  rw [hk, hs] at HC
  rw [hl] at HL h5 h6 h7 h8 hq0
  rw [hk] at h0 h1 h2 h3
  rw [hs] at h4 h5 h9
  clear hk hs hl hu hq hX
  have t0 : ((k : Int) == 4) = false := eqb_false (by omega)
  have t1 : ((k : Int) == 5) = false := eqb_false (by omega)
  have t2 : ((k : Int) == 3) = false := eqb_false (by omega)
  have t3 : ((k : Int) == 2) = false := eqb_false (by omega)
  have t4 : ((s : Int) == 2) = false := eqb_false (by omega)
  have t5 : ((s : Int) == 3) = false := eqb_false (by omega)
  have t6 : ((l : Int) == 1108) = false := eqb_false (by omega)
  have t7 : ((l : Int) == 1110) = false := eqb_false (by omega)
  have t8 : ((l : Int) == 1169) = false := eqb_false (by omega)
  have HB3 := Lib.hid hb3
  clear hb3
  obtain ⟨e0, he0⟩ : ∃ e0, encL [c] = e0 := ⟨_, rfl⟩
  rw [he0] at HEn HSe HB3
  clear he0
  clear h0 h1 h2 h3 h4 h5 h6 h7 h8 h9
  go_enter Tryz.func74, Tryz.ntmps74
  go_wp2_with fail
  refine HC.out.mono ?_
  rintro e w1 ⟨rfl, q, rfl⟩
  have b1 : Below w.heap.size w (w.drewN q) := below_drewN (Below.refl _ _) q
  go_wp2_with fail
  refine (HL.out _).mono ?_
  rintro e w2 ⟨rfl, k2⟩
  have b2 := below_next b1 k2
  go_wp2_with fail
  refine (refEncode_any _ _ _ [(c : Int)] _ (Arr.of_box (val := iv) (Box.made w2 3 #[.int .i64 (c : Int)]) rfl (Nat.le_refl _) (by intro i u hu; cases i with | zero => (simp at hu; subst hu; rfl) | succ i => simp at hu) |>.more (by simp)) (by simp)).mono ?_
  rintro e w3 ⟨he, k3⟩
  rw [HEn.out] at he
  obtain rfl := he
  have b3 := below_next (below_new b2 _) k3
  go_wp2_with fail
  refine (HSe.out _).mono ?_
  rintro e w4 ⟨rfl, k4⟩
  have b4 := below_next b3 k4
  go_wp2_with fail
  refine (HDe.out _).mono ?_
  rintro e w5 ⟨hde, k5⟩
  obtain ⟨A0, n, cc, b', rfl, hcase⟩ := hde.form
  rcases hcase with ⟨rfl, l', hl', hn, hA, -⟩ | ⟨rfl, h, -⟩
  case inr => cases h
  obtain rfl := Option.some.inj hl'
  have b5 := below_next b4 k5
  clear hl' hde HC HEn HSe HDe HL
  have hn1 : 1 ≤ n := by rw [hn]; exact HS1.out
  have hn3 : n ≤ 3 := by rw [hn]; exact hsl
  obtain ⟨a0, o0, rfl, hA0, hca⟩ := hA.some_ (by omega)
  have f1 : ((n : Int) == 1) = false := eqb_false (by rw [hn]; omega)
  have HN := Lib.hid hn
  clear hn
  go_wp2
  go_loopw [11, 12] (fun v i wr => ∃ k : Nat, k ≤ n ∧ i = .int .i64 (k : Int) ∧ wr.ownsRow w5.heap.size 71 3 v (R.take k).length ((R.take k).flatMap ev) ∧ Below w5.heap.size w5 wr) (fun _ i _ => n - (intOf i).toNat)
  case atStart => exact ⟨0, by omega, rfl, World.ownsRow_nil _ _ _ _, Below.refl _ _⟩
  case round =>
    obtain ⟨k, hk, rfl, hown, hb⟩ := hrel
    have hbs := hb.size
    have hRl : R.length = n := by rw [HR.out, List.length_map, HN.out]
    by_cases hlt : k < n
    · have i1 : decide ((k : Int) < (n : Int)) = true := by simp; omega
      have i1' : decide (k < n) = true := by simpa using hlt
      have kz : (k : Int) < (n : Int) := by omega
      obtain ⟨x, hx⟩ : ∃ x, X[k]? = some x := ⟨_, List.getElem?_eq_getElem (by have := HN.out; omega)⟩
      have d1 : wr.cell? ⟨a0, o0 + k, none⟩ = some (.int .i64 (x : Int)) := (hb.cell (p := ⟨a0, o0 + k, none⟩) hA0).trans (hca k x hx)
      have hx1 := HQ.out x (List.mem_of_getElem? hx)
      have HX : Hid (R.take (k + 1) = R.take k ++ [lev 2 u x]) := Lib.hid (take_next (by rw [HR.out, List.getElem?_map, hx]; rfl))
      have hrl : (R.take k).length ≤ 3 := by rw [List.length_take]; omega
      obtain ⟨O, hO⟩ : ∃ O, R.take k = O := ⟨_, rfl⟩
      rw [hO] at hown HX hrl
      clear hca hx hO
      obtain ⟨A4, c4, h4⟩ := (SArr.of_own ev_len hown).form
      obtain ⟨M, hM⟩ : ∃ M, O.length = M := ⟨_, rfl⟩
      have HM := Lib.hid hM
      rw [hM] at h4 hrl
      subst h4
      clear hM
      have hol : O.length ≤ 1000000000000 - 1 := by rw [HM.out]; omega
      have HA0 : Hid (a0 < wr.heap.size) := Lib.hid (Nat.lt_of_lt_of_le hA0 hbs)
      clear hA hRl
      have HXX := Lib.hid hx1
      have hown0 : wr.drew.ownsRow w5.heap.size 71 3 (.slice A4 M c4) O.length (O.flatMap ev) := hown
      have d10 : wr.drew.cell? ⟨a0, o0 + k, none⟩ = some (.int .i64 (x : Int)) := d1
      have hb0 := hb.drew
      have hbs0 := hb0.size
      have HA1 : Hid (a0 < wr.drew.heap.size) := HA0
      go_wp2
      have HP : Hid ((IntKind.i64.wrap (30000 + IntKind.i64.wrap (100 * IntKind.i64.wrap ((x : Int) - 97))) : Int) = ((lev 2 u x).1 : Int)) := Lib.hid (lev_wrap hx1.1 hx1.2)
      go_region_held3 (fun v => v.cell? ⟨a0, o0 + k, none⟩ = some (.int .i64 (x : Int)))
        (first
          | exact d10
          | exact d6
          | exact (((Below.refl _ _).alloc (Nat.le_refl _) _).cell (p := ⟨a0, o0 + k, none⟩) hlt6).trans d6
          | exact (hb7.cell (p := ⟨a0, o0 + k, none⟩) hA0).trans ((((Below.refl _ _).alloc (Nat.le_refl _) _).cell (p := ⟨a0, o0 + k, none⟩) hlt6).trans d6))
        (first
          | (go_at_call 75; (with_reducible refine (HCap.out _).mono ?_); rintro e w6 ⟨rfl, hb6⟩; have d6 := (hb6.cell (p := ⟨a0, o0 + k, none⟩) HA1.out).trans d10; have hown6 := own_keep_below hown0 hb6; have hb6' := hb0.trans (hb6.mono hbs0); have hlt6 := Nat.lt_of_lt_of_le HA1.out hb6.size; have hbs6 := hb6'.size; have hbs7 := Nat.le_succ_of_le hbs6)
          | (refine step_struct (val := ev) 68 71 (.agg #[.int .i64 0, .int .i64 0, .int .i64 0]) 24 Tryz.underlying68 info_elem rfl (by decide) (by decide) ev_len ev_one _ rfl (.tmp 124) (.tmp 136) rfl w5.heap.size (.slice A4 M c4) O rfl ?_ (lev 2 u x) ⟨w6.heap.size, 0, none⟩ rfl ?_ hol ?_ ?_
             · exact own_keep_below hown6 ((Below.refl _ _).alloc (Nat.le_refl _) _)
             · exact elem_cells HP.out rfl rfl
             · (simp; omega)
             intro v7 w7 hown7 hb7))
      all_goals
        go_wp2
        go_roundw
        case rel => exact ⟨k + 1, by omega, by go_num, (by rw [HX.out]; exact hown7), (hb6'.alloc hbs6 _).trans hb7⟩
        case measure => simp [intOf]; omega
    · obtain rfl : k = n := by omega
      rw [List.take_of_length_le (by omega)] at hown
      have hA2 := SArr.of_own ev_len hown
      have i1 : decide ((k : Int) < (k : Int)) = false := by simp
      have i1' : decide (k < k) = false := by simp
      obtain ⟨A4, c4, h4⟩ := hA2.form
      rw [hRl] at h4
      subst h4
      go_wp2
      go_ret
      exact ⟨_, _, _, rfl, hA2, below_next b5 (hb.mono (Nat.le_refl _))⟩

theorem refSingle_any (c : Nat) (w : World) (hq : Asked c) :
    Calls Tryz.prog 74 #[.int .i64 (c : Int)] w (EndEls w (singleL c)) := by
  by_cases hD : Late c
  · by_cases h0 : seaN c = [lowN c]
    · exact single_late_a c w hq hD h0
    · by_cases h1 : (seaN c).length = 1
      · obtain ⟨x0, hx⟩ := List.length_eq_one_iff.1 h1
        exact single_late_b c w hq hD x0 h0 hx
      · exact single_late_c c w hq hD h0 h1
  · exact refSingle_early c w hq hD

end Go.Proofs.YtafnjbmeponobaaGreatDoor

namespace Go.Proofs.YtafnjbmeponobaaGreatDoor
open Go.Shelf

def buildRen6 : Go.Shelf.Ren := ⟨fun | 166 => 87 | 167 => 111 | 168 => 88 | 169 => 89 | 170 => 113 | 240 => 106 | 242 => 107 | 276 => 122 | 278 => 123 | n => n, fun | 0 => 0 | 3 => 3 | 4 => 4 | 5 => 5 | 9 => 9 | 20 => 20 | 21 => 21 | 31 => 43 | 37 => 30 | 46 => 91 | 51 => 139 | 70 => 102 | 72 => 104 | 75 => 106 | 76 => 107 | 80 => 110 | 127 => 120 | 164 => 137 | n => n, fun n => n⟩
theorem wstrLays : Lays.n166 Tryz.prog buildRen6 := {
  mixed := by kernel_rfl,
  f166 := Tryz.func87.trans (congrArg some (by kernel_rfl)),
  f240 := Tryz.func106.trans (congrArg some (by kernel_rfl)),
  f276 := Tryz.func122.trans (congrArg some (by kernel_rfl)),
  t0 := Tryz.underlying0,
  a0 := Tryz.isAgg0,
  z0 := Tryz.sizeOf0,
  v0 := Tryz.zeroValue0,
  t3 := Tryz.underlying3,
  a3 := Tryz.isAgg3,
  z3 := Tryz.sizeOf3,
  v3 := Tryz.zeroValue3,
  t4 := Tryz.underlying4,
  a4 := Tryz.isAgg4,
  z4 := Tryz.sizeOf4,
  v4 := Tryz.zeroValue4,
  t9 := Tryz.underlying9,
  a9 := Tryz.isAgg9,
  z9 := Tryz.sizeOf9,
  v9 := Tryz.zeroValue9,
  t20 := Tryz.underlying20,
  a20 := Tryz.isAgg20,
  z20 := Tryz.sizeOf20,
  v20 := Tryz.zeroValue20,
  t37 := Tryz.underlying30,
  a37 := Tryz.isAgg30,
  z37 := Tryz.sizeOf30,
  v37 := Tryz.zeroValue30,
  t70 := Tryz.underlying102,
  a70 := Tryz.isAgg102,
  z70 := Tryz.sizeOf102,
  v70 := Tryz.zeroValue102,
  t72 := Tryz.underlying104,
  a72 := Tryz.isAgg104,
  z72 := Tryz.sizeOf104,
  v72 := Tryz.zeroValue104,
  t75 := Tryz.underlying106,
  a75 := Tryz.isAgg106,
  z75 := Tryz.sizeOf106,
  v75 := Tryz.zeroValue106,
  t164 := Tryz.underlying137,
  a164 := Tryz.isAgg137,
  z164 := Tryz.sizeOf137,
  v164 := Tryz.zeroValue137
}
theorem wbyteLays : Lays.n167 Tryz.prog buildRen6 := {
  mixed := by kernel_rfl,
  f167 := Tryz.func111.trans (congrArg some (by kernel_rfl)),
  f240 := Tryz.func106.trans (congrArg some (by kernel_rfl)),
  f276 := Tryz.func122.trans (congrArg some (by kernel_rfl)),
  t0 := Tryz.underlying0,
  a0 := Tryz.isAgg0,
  z0 := Tryz.sizeOf0,
  v0 := Tryz.zeroValue0,
  t4 := Tryz.underlying4,
  a4 := Tryz.isAgg4,
  z4 := Tryz.sizeOf4,
  v4 := Tryz.zeroValue4,
  t5 := Tryz.underlying5,
  a5 := Tryz.isAgg5,
  z5 := Tryz.sizeOf5,
  v5 := Tryz.zeroValue5,
  t9 := Tryz.underlying9,
  a9 := Tryz.isAgg9,
  z9 := Tryz.sizeOf9,
  v9 := Tryz.zeroValue9,
  t20 := Tryz.underlying20,
  a20 := Tryz.isAgg20,
  z20 := Tryz.sizeOf20,
  v20 := Tryz.zeroValue20,
  t37 := Tryz.underlying30,
  a37 := Tryz.isAgg30,
  z37 := Tryz.sizeOf30,
  v37 := Tryz.zeroValue30,
  t70 := Tryz.underlying102,
  a70 := Tryz.isAgg102,
  z70 := Tryz.sizeOf102,
  v70 := Tryz.zeroValue102,
  t72 := Tryz.underlying104,
  a72 := Tryz.isAgg104,
  z72 := Tryz.sizeOf104,
  v72 := Tryz.zeroValue104,
  t75 := Tryz.underlying106,
  a75 := Tryz.isAgg106,
  z75 := Tryz.sizeOf106,
  v75 := Tryz.zeroValue106,
  t164 := Tryz.underlying137,
  a164 := Tryz.isAgg137,
  z164 := Tryz.sizeOf137,
  v164 := Tryz.zeroValue137
}
theorem blenLays : Lays.n170 Tryz.prog buildRen6 := {
  mixed := by kernel_rfl,
  f170 := Tryz.func113.trans (congrArg some (by kernel_rfl)),
  t0 := Tryz.underlying0,
  a0 := Tryz.isAgg0,
  z0 := Tryz.sizeOf0,
  v0 := Tryz.zeroValue0,
  t3 := Tryz.underlying3,
  a3 := Tryz.isAgg3,
  z3 := Tryz.sizeOf3,
  v3 := Tryz.zeroValue3,
  t37 := Tryz.underlying30,
  a37 := Tryz.isAgg30,
  z37 := Tryz.sizeOf30,
  v37 := Tryz.zeroValue30,
  t70 := Tryz.underlying102,
  a70 := Tryz.isAgg102,
  z70 := Tryz.sizeOf102,
  v70 := Tryz.zeroValue102,
  t72 := Tryz.underlying104,
  a72 := Tryz.isAgg104,
  z72 := Tryz.sizeOf104,
  v72 := Tryz.zeroValue104
}
theorem buildExtra6 : Builder.Extra Tryz.prog buildRen6 where
  sizeBuilder := by kernel_rfl
  liesBuilder := by kernel_rfl
  t5 := Tryz.underlying5
  a5 := Tryz.isAgg5
  z5 := Tryz.sizeOf5
  v5 := Tryz.zeroValue5
  infoByte := by kernel_rfl
  cellsByte := by kernel_rfl
  sizeByte := by kernel_rfl
  neB5 := by decide

end Go.Proofs.YtafnjbmeponobaaGreatDoor
