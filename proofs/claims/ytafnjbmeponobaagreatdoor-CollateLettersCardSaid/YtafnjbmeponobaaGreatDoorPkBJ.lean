/-
  The reference's Key.
  The reference's Same.
  The body of CollateKeys.
  The body of CollateEqual.
-/
import Derived.Test.YtafnjbmeponobaaGreatDoorPkBI
import Derived.Test.YtafnjbmeponobaaGreatDoorPkAD
import Derived.Test.YtafnjbmeponobaaGreatDoorPkBH
namespace Go.Proofs.YtafnjbmeponobaaGreatDoor
open Go.RowKit

set_option maxRecDepth 100000 in
set_option maxHeartbeats 6400000 in
theorem refKey8_any (A : Option Addr) (n c : Nat) (t : List RuleL) (s : List UInt8) (w : World) (h : Tab8 w A n c t) (hs : s.length ≤ 60000) :
    Calls Tryz.prog 17 #[.slice A n c, .string (str s)] w fun e w' => ∃ A' n' c', e = .returned (.slice A' n' c') ∧ Arr bv w' w'.heap.size (.slice A' n' c') (nKey t s) ∧ Below w.heap.size w w' := by
  have HV := Lib.hid (refGood8_any A n c t s w h hs)
  cases hv : goodT t s with
  | false =>
    rw [hv] at HV
    rw [nKey_bad hv]
    clear h hv
    go_enter Tryz.func17, Tryz.ntmps17
    go_wp2_with fail
    refine HV.out.mono ?_
    rintro e w1 ⟨rfl, k1⟩
    go_wp2
    go_ret
    exact ⟨_, _, _, rfl, .inl ⟨rfl, rfl⟩, k1⟩
  | true =>
    rw [hv] at HV
    rw [nKey_good hv]
    have hvT : validT t = true := by
      unfold goodT at hv
      rw [Bool.and_eq_true] at hv
      exact hv.2
    have HEls := Lib.hid (fun (W : World) (hW : Below w.heap.size w W) => refElements_any A n c t s W (h.up hW).arr hvT (by omega))
    have HDc := Lib.hid (fun W => refDecompose_any s W (by omega))
    have hln := elsT_len t s
    have hfl := nD_len s
    have HK := Lib.hid (keyB_eq t s)
    have HOk : Hid (∀ e ∈ elsT t s, okE e) := Lib.hid (els_ok hvT s)
    obtain ⟨i0, hi, hz0, hz1, hz2⟩ := info_parts info_u8k
    obtain ⟨els, hels⟩ : ∃ els, elsT t s = els := ⟨_, rfl⟩
    obtain ⟨f, hf⟩ : ∃ f, nD s = f := ⟨_, rfl⟩
    obtain ⟨R, hR⟩ : ∃ R, keyB t s = R := ⟨_, rfl⟩
    rw [hels] at HEls hln HK HOk
    rw [hf] at HDc HK hfl
    rw [hR] at HK ⊢
    clear h hv hels hvT hf hR
    go_enter Tryz.func17, Tryz.ntmps17
    go_wp2_with fail
    refine HV.out.mono ?_
    rintro e w1 ⟨rfl, k1⟩
    go_wp2_with fail
    refine (HEls.out _ k1).mono ?_
    rintro e w5 ⟨A5, n5, c5, rfl, hE5, k5⟩
    have b5 := below_next k1 k5
    have HN := Lib.hid hE5.len
    have hn5 : n5 ≤ 1000000 := by have := HN.out; omega
    have hfl2 : f.length ≤ 1000000 := by omega
    clear hln hfl
    go_wp2
    go_loopw [6, 7] (fun pv iv_ wr => ∃ (k : Nat) (bs : List UInt8), k ≤ n5 ∧ iv_ = .int .i64 (k : Int) ∧ Hid ((els.take k).flatMap putPrim = bs) ∧ bs.length ≤ 3 * k ∧ wr.ownsRow w5.heap.size 5 1 pv bs.length (bs.map bv) ∧ Below w5.heap.size w5 wr) (fun _ iv_ _ => n5 - (intOf iv_).toNat)
    case atStart => exact ⟨0, [], by omega, rfl, Lib.hid rfl, by simp, World.ownsRow_nil _ _ _ _, Below.refl _ _⟩
    case round =>
      obtain ⟨k, bs, hk, rfl, HO, hol, hown, hb⟩ := hrel
      have hbs := hb.size
      by_cases hlt : k < n5
      · have t1 : decide ((k : Int) < (n5 : Int)) = true := by simp; omega
        have t1' : decide (k < n5) = true := by simpa using hlt
        have kz : (k : Int) < (n5 : Int) := by omega
        obtain ⟨a0, o0, rfl, hA0, hca⟩ := hE5.some_ ev_len (by decide) (by omega)
        obtain ⟨y, hy⟩ : ∃ y, els[k]? = some y := ⟨_, List.getElem?_eq_getElem (by have := HN.out; omega)⟩
        have c0 : wr.cell? ⟨a0, o0 + k * 3, none⟩ = some (.int .i64 (y.1 : Int)) := (hb.cell (p := ⟨a0, o0 + k * 3, none⟩) hA0).trans (hca k y hy 0 _ rfl)
        have hprim := elem_snoc putPrim hy
        have hyo := HOk.out y (List.mem_of_getElem? hy)
        obtain ⟨p, sc, te⟩ := y
        have hpm : p ≤ 10000041 := hyo.1
        simp only [putPrim] at c0 hprim
        clear hyo
        by_cases hp : p = 0
        · subst hp
          have HO2 : Hid ((els.take (k + 1)).flatMap putPrim = bs) := Lib.hid (by rw [hprim, HO.out, if_pos rfl, List.append_nil])
          have c0' : wr.cell? ⟨a0, o0 + k * 3, none⟩ = some (.int .i64 0) := c0
          clear hca hy hprim c0
          go_wp2
          go_roundw
          case rel => exact ⟨k + 1, bs, by omega, by go_num, HO2, by omega, hown, hb⟩
          case measure => simp [intOf]; omega
        · have t2 : ((p : Int) != 0) = true := by simp; omega
          have w1 : IntKind.u8.wrap ((p : Int) / 65536) = ((UInt8.ofNat (p / 65536)).toNat : Int) := by rw [UInt8.toNat_ofNat', IntKind.wrap_u8]; omega
          have w2 : IntKind.u8.wrap ((p : Int) / 256 % 256) = ((UInt8.ofNat (p / 256 % 256)).toNat : Int) := by rw [UInt8.toNat_ofNat', IntKind.wrap_u8]; omega
          have w3 : IntKind.u8.wrap ((p : Int) % 256) = ((UInt8.ofNat (p % 256)).toNat : Int) := by rw [UInt8.toNat_ofNat', IntKind.wrap_u8]; omega
          have q1 : Int.tdiv (p : Int) 65536 = (p : Int) / 65536 := Int.tdiv_eq_ediv_of_nonneg (by omega)
          have q2 : Int.tdiv (p : Int) 256 = (p : Int) / 256 := Int.tdiv_eq_ediv_of_nonneg (by omega)
          have q3 : Int.tmod (p : Int) 256 = (p : Int) % 256 := Int.tmod_eq_emod_of_nonneg (by omega)
          have q4 : Int.tmod ((p : Int) / 256) 256 = (p : Int) / 256 % 256 := Int.tmod_eq_emod_of_nonneg (by omega)
          have v1 : IntKind.i64.wrap ((p : Int) / 65536) = (p : Int) / 65536 := wraps_i64 _ (by omega) (by omega)
          have v2 : IntKind.i64.wrap ((p : Int) / 256) = (p : Int) / 256 := wraps_i64 _ (by omega) (by omega)
          have v3 : IntKind.i64.wrap ((p : Int) % 256) = (p : Int) % 256 := wraps_i64 _ (by omega) (by omega)
          have v4 : IntKind.i64.wrap ((p : Int) / 256 % 256) = (p : Int) / 256 % 256 := wraps_i64 _ (by omega) (by omega)
          rw [if_neg hp] at hprim
          simp only [three, List.map_cons, List.map_nil] at hprim
          obtain ⟨b1, hb1⟩ : ∃ b, UInt8.ofNat (p / 65536) = b := ⟨_, rfl⟩
          obtain ⟨b2, hb2⟩ : ∃ b, UInt8.ofNat (p / 256 % 256) = b := ⟨_, rfl⟩
          obtain ⟨b3, hb3⟩ : ∃ b, UInt8.ofNat (p % 256) = b := ⟨_, rfl⟩
          rw [hb1] at w1
          rw [hb2] at w2
          rw [hb3] at w3
          rw [hb1, hb2, hb3, HO.out] at hprim
          have HO2 := Lib.hid hprim
          have hnew : Arr bv (wr.alloc (.cells #[bv b1, bv b2, bv b3] 5)) (wr.heap.size + 1) (.slice (some ⟨wr.heap.size, 0, none⟩) 3 3) [b1, b2, b3] := Arr.of_box (Box.made wr _ _) rfl (Nat.le_refl _) (fun i u hu => by
            match i, hu with
            | 0, hu => simp at hu; subst hu; rfl
            | 1, hu => simp at hu; subst hu; rfl
            | 2, hu => simp at hu; subst hu; rfl
            | i + 3, hu => simp at hu)
          have hownU := own_keep_below hown ((Below.refl wr.heap.size wr).alloc (Nat.le_refl _) (.cells #[bv b1, bv b2, bv b3] 5))
          have hbU := hb.alloc hbs (.cells #[bv b1, bv b2, bv b3] 5)
          have hbUs := hbU.size
          have hln : bs.length + [b1, b2, b3].length ≤ 1000000000000 := by simp; omega
          clear hb1 hb2 hb3 hca hy hprim hp hown
          go_wp2_with (at_builtin; refine append_arr (val := bv) 30 5 (.int .u8 0) 1 Tryz.underlying30 info_u8k rfl (by decide) one_bv (wr.alloc (.cells #[bv b1, bv b2, bv b3] 5)) rfl (.tmp 31) (.tmp 42) rfl w5.heap.size (wr.heap.size + 1) u6 bs rfl hownU [b1, b2, b3] _ rfl hnew hln hbUs ?_; intro v7 w7 hown7 hb7)
          go_wp2
          go_roundw
          case rel => exact ⟨k + 1, bs ++ [b1, b2, b3], by omega, by go_num, HO2, by rw [List.length_append]; simp; omega, hown7, hbU.trans hb7⟩
          case measure => simp [intOf]; omega
      · obtain rfl : k = n5 := by omega
        have t1 : decide ((k : Int) < (k : Int)) = false := by simp
        have t1' : decide (k < k) = false := by simp
        have HE : Hid (els.flatMap putPrim = bs) := Lib.hid (by have h5 := HO.out; rwa [List.take_of_length_le (by rw [HN.out]; exact Nat.le_refl _)] at h5)
        clear t1 t1' hbs
        obtain ⟨wx, hwx⟩ : ∃ x : World, x = wr := ⟨_, rfl⟩
        subst hwx
        have hbs := hb.size
        have hnew : Arr bv (wx.alloc (.cells #[.int .u8 0, .int .u8 0, .int .u8 0] 5)) (wx.heap.size + 1) (.slice (some ⟨wx.heap.size, 0, none⟩) 3 3) [0, 0, 0] := Arr.of_box (Box.made wx _ _) rfl (Nat.le_refl _) (fun i u hu => by
          match i, hu with
          | 0, hu => simp at hu; subst hu; rfl
          | 1, hu => simp at hu; subst hu; rfl
          | 2, hu => simp at hu; subst hu; rfl
          | i + 3, hu => simp at hu)
        have hownU := own_keep_below hown ((Below.refl wx.heap.size wx).alloc (Nat.le_refl _) (.cells #[.int .u8 0, .int .u8 0, .int .u8 0] 5))
        have hbU := hb.alloc hbs (.cells #[.int .u8 0, .int .u8 0, .int .u8 0] 5)
        have hbUs := hbU.size
        have hln : bs.length + [(0 : UInt8), 0, 0].length ≤ 1000000000000 := by simp; omega
        clear hown
        go_wp2_with (at_builtin; refine append_arr (val := bv) 30 5 (.int .u8 0) 1 Tryz.underlying30 info_u8k rfl (by decide) one_bv (wx.alloc (.cells #[.int .u8 0, .int .u8 0, .int .u8 0] 5)) rfl (.tmp 44) (.tmp 45) rfl w5.heap.size (wx.heap.size + 1) u6 bs rfl hownU [0, 0, 0] _ rfl hnew hln hbUs ?_; intro v7 w7 hown7 hb7)
        have hbW : Below w5.heap.size w5 w7 := hbU.trans hb7
        obtain ⟨bs1, hbs1⟩ : ∃ b, bs ++ [(0 : UInt8), 0, 0] = b := ⟨_, rfl⟩
        rw [hbs1] at hown7
        have HB1 := Lib.hid hbs1
        have hl1 : bs1.length ≤ 3 * k + 3 := by rw [← hbs1, List.length_append]; simp; omega
        clear hbs1 hnew hownU hbU hbUs hln hbs hb hb7
        go_wp2
        go_loopw [6, 9] (fun pv iv_ wr => ∃ (q : Nat) (ds : List UInt8), q ≤ k ∧ iv_ = .int .i64 (q : Int) ∧ Hid (bs1 ++ (els.take q).flatMap putSec = ds) ∧ ds.length ≤ 3 * k + 3 + k + 1 + q ∧ wr.ownsRow w5.heap.size 5 1 pv ds.length (ds.map bv) ∧ Below w5.heap.size w5 wr) (fun _ iv_ _ => k - (intOf iv_).toNat)
        case atStart => exact ⟨0, bs1, by omega, rfl, Lib.hid (by simp), by omega, hown7, hbW⟩
        case round =>
          obtain ⟨q, ds, hq, rfl, HQ2, hol, hown, hb⟩ := hrel
          have hbs := hb.size
          by_cases hlt : q < k
          · have t1 : decide ((q : Int) < (k : Int)) = true := by simp; omega
            have t1' : decide (q < k) = true := by simpa using hlt
            have kz : (q : Int) < (k : Int) := by omega
            obtain ⟨a0, o0, rfl, hA0, hca⟩ := hE5.some_ ev_len (by decide) (by omega)
            obtain ⟨y, hy⟩ : ∃ y, els[q]? = some y := ⟨_, List.getElem?_eq_getElem (by have := HN.out; omega)⟩
            have c0 : wr.cell? ⟨a0, o0 + q * 3 + 1, none⟩ = some (.int .i64 (y.2.1 : Int)) := (hb.cell (p := ⟨a0, o0 + q * 3 + 1, none⟩) hA0).trans (hca q y hy 1 _ rfl)
            have hprim := elem_snoc putSec hy
            have hyo := HOk.out y (List.mem_of_getElem? hy)
            have hW : IntKind.u8.wrap (y.2.1 : Int) = ((UInt8.ofNat y.2.1).toNat : Int) := by
              have h2 : y.2.1 ≤ 255 := by have := hyo; unfold okE at this; omega
              rw [UInt8.toNat_ofNat', IntKind.wrap_u8]
              omega
            have hpy : putSec y = [UInt8.ofNat y.2.1] := rfl
            rw [hpy] at hprim
            clear hpy
            obtain ⟨z, hz⟩ : ∃ z, y.2.1 = z := ⟨_, rfl⟩
            rw [hz] at c0 hW hprim
            obtain ⟨b, hbb⟩ : ∃ b, UInt8.ofNat z = b := ⟨_, rfl⟩
            rw [hbb] at hW hprim
            have HX2 : Hid (bs1 ++ (els.take (q + 1)).flatMap putSec = ds ++ [b]) := Lib.hid (by rw [hprim, ← List.append_assoc, HQ2.out])
            clear hca hy hprim hyo hz hbb
            go_wp2_with (at_builtin; refine append_one (val := bv) 30 5 (.int .u8 0) 1 Tryz.underlying30 info_u8k rfl (by decide) one_bv wr rfl (.tmp 53) (.tmp 60) rfl w5.heap.size u6 ds rfl hown b _ rfl rfl (by omega) hbs ?_; intro v7 w7 hown7 hb7)
            go_wp2
            go_roundw
            case rel => exact ⟨q + 1, ds ++ [b], by omega, by go_num, HX2, by rw [List.length_append]; simp; omega, hown7, hb.trans hb7⟩
            case measure => simp [intOf]; omega
          · obtain rfl : q = k := by omega
            have t1 : decide ((q : Int) < (q : Int)) = false := by simp
            have t1' : decide (q < q) = false := by simp
            have HE2 : Hid (bs1 ++ els.flatMap putSec = ds) := Lib.hid (by have h5 := HQ2.out; rw [List.take_of_length_le (by rw [HN.out]; exact Nat.le_refl _)] at h5; exact h5)
            obtain ⟨wx, hwx⟩ : ∃ x : World, x = wr := ⟨_, rfl⟩
            subst hwx
            clear hlt hown7 hbW
            go_wp2_with (at_builtin; refine append_one (val := bv) 30 5 (.int .u8 0) 1 Tryz.underlying30 info_u8k rfl (by decide) one_bv wx rfl (.tmp 62) (.tmp 63) rfl w5.heap.size u6 ds rfl hown 0 _ rfl rfl (by omega) hbs ?_; intro v8 w8 hown8 hb8)
            have hbW : Below w5.heap.size w5 w8 := hb.trans hb8
            obtain ⟨bs2, hbs2⟩ : ∃ b, ds ++ [(0 : UInt8)] = b := ⟨_, rfl⟩
            rw [hbs2] at hown8
            have HB2 := Lib.hid hbs2
            have hl2 : bs2.length ≤ 3 * q + 3 + q + 1 + q + 1 := by rw [← hbs2, List.length_append]; simp; omega
            obtain ⟨k, hk2⟩ : ∃ k, k = q := ⟨_, rfl⟩
            subst hk2
            clear hbs2 hbs hb hb8 t1 t1' hown
            go_wp2
            go_loopw [6, 10] (fun pv iv_ wr => ∃ (q : Nat) (ds : List UInt8), q ≤ k ∧ iv_ = .int .i64 (q : Int) ∧ Hid (bs2 ++ (els.take q).flatMap putTer = ds) ∧ ds.length ≤ 3 * k + 3 + k + 1 + k + 1 + q ∧ wr.ownsRow w5.heap.size 5 1 pv ds.length (ds.map bv) ∧ Below w5.heap.size w5 wr) (fun _ iv_ _ => k - (intOf iv_).toNat)
            case atStart => exact ⟨0, bs2, by omega, rfl, Lib.hid (by simp), by omega, hown8, hbW⟩
            case round =>
              obtain ⟨q, ds, hq, rfl, HQ3, hol, hown, hb⟩ := hrel
              have hbs := hb.size
              by_cases hlt : q < k
              · have t1 : decide ((q : Int) < (k : Int)) = true := by simp; omega
                have t1' : decide (q < k) = true := by simpa using hlt
                have kz : (q : Int) < (k : Int) := by omega
                obtain ⟨a0, o0, rfl, hA0, hca⟩ := hE5.some_ ev_len (by decide) (by omega)
                obtain ⟨y, hy⟩ : ∃ y, els[q]? = some y := ⟨_, List.getElem?_eq_getElem (by have := HN.out; omega)⟩
                have c0 : wr.cell? ⟨a0, o0 + q * 3 + 2, none⟩ = some (.int .i64 (y.2.2 : Int)) := (hb.cell (p := ⟨a0, o0 + q * 3 + 2, none⟩) hA0).trans (hca q y hy 2 _ rfl)
                have hprim := elem_snoc putTer hy
                have hyo := HOk.out y (List.mem_of_getElem? hy)
                have hW : IntKind.u8.wrap (y.2.2 : Int) = ((UInt8.ofNat y.2.2).toNat : Int) := by
                  have h2 : y.2.2 ≤ 255 := by have := hyo; unfold okE at this; omega
                  rw [UInt8.toNat_ofNat', IntKind.wrap_u8]
                  omega
                have hpy : putTer y = [UInt8.ofNat y.2.2] := rfl
                rw [hpy] at hprim
                clear hpy
                obtain ⟨z, hz⟩ : ∃ z, y.2.2 = z := ⟨_, rfl⟩
                rw [hz] at c0 hW hprim
                obtain ⟨b, hbb⟩ : ∃ b, UInt8.ofNat z = b := ⟨_, rfl⟩
                rw [hbb] at hW hprim
                have HX2 : Hid (bs2 ++ (els.take (q + 1)).flatMap putTer = ds ++ [b]) := Lib.hid (by rw [hprim, ← List.append_assoc, HQ3.out])
                clear hca hy hprim hyo hz hbb
                go_wp2_with (at_builtin; refine append_one (val := bv) 30 5 (.int .u8 0) 1 Tryz.underlying30 info_u8k rfl (by decide) one_bv wr rfl (.tmp 71) (.tmp 78) rfl w5.heap.size u6 ds rfl hown b _ rfl rfl (by omega) hbs ?_; intro v7 w7 hown7 hb7)
                go_wp2
                go_roundw
                case rel => exact ⟨q + 1, ds ++ [b], by omega, by go_num, HX2, by rw [List.length_append]; simp; omega, hown7, hb.trans hb7⟩
                case measure => simp [intOf]; omega
              · obtain rfl : q = k := by omega
                have t1 : decide ((q : Int) < (q : Int)) = false := by simp
                have t1' : decide (q < q) = false := by simp
                have HE3 : Hid (bs2 ++ els.flatMap putTer = ds) := Lib.hid (by have h5 := HQ3.out; rw [List.take_of_length_le (by rw [HN.out]; exact Nat.le_refl _)] at h5; exact h5)
                obtain ⟨wx, hwx⟩ : ∃ x : World, x = wr := ⟨_, rfl⟩
                subst hwx
                clear hlt hown8 hbW
                go_wp2_with (at_builtin; refine append_one (val := bv) 30 5 (.int .u8 0) 1 Tryz.underlying30 info_u8k rfl (by decide) one_bv wx rfl (.tmp 80) (.tmp 81) rfl w5.heap.size u6 ds rfl hown 0 _ rfl rfl (by omega) hbs ?_; intro v9 w9 hown9 hb9)
                have hbW : Below w5.heap.size w5 w9 := hb.trans hb9
                go_wp2_with fail
                refine (HDc.out _).mono ?_
                rintro e wd ⟨rfl, kd⟩
                have hownD := own_keep_below hown9 kd
                have hbD : Below w5.heap.size w5 wd := below_next hbW kd
                have hbDs := hbD.size
                obtain ⟨bs3, hbs3⟩ : ∃ b, ds ++ [(0 : UInt8)] = b := ⟨_, rfl⟩
                have hl3 : bs3.length ≤ 100000000 := by rw [← hbs3, List.length_append]; simp; omega
                rw [hbs3] at hownD
                have HF : Hid (bs3 ++ f = R) := Lib.hid (by
                  rw [HK.out, ← hbs3, ← HE3.out, ← HB2.out, ← HE2.out, ← HB1.out, ← HE.out]
                  rfl)
                obtain ⟨v10, w10, hr, hown10, hg10, -⟩ := Lib.run_append_own_string (P := Tryz.prog) wd w5.heap.size 30 9 30 5 i0 Tryz.underlying30 (by kernel_rfl) hi hz0 hz1 hz2 v9 _ _ hownD (str f) (by rw [str_size]; unfold maxLen; omega) (by rw [str_size]; omega) hbDs
                rw [strCells_str, ← List.map_append, str_size, ← List.length_append, HF.out] at hown10
                have hb10 := below_own hownD hbDs hg10
                have hA := Arr.of_own hown10
                obtain ⟨A7, N7, c7, rfl⟩ := hA.form3
                have HA := Lib.hid hA
                have hbE : Below w5.heap.size w5 w10 := hbD.trans hb10
                clear hown10 hA hg10 hb10 hownD hbs3
                go_wp2_with (at_builtin; refine Lib.wpList_append_run _ rfl (.tmp 82) (.tmp 84) _ _ rfl _ _ rfl rfl _ _ hr ?_)
                go_wp2
                go_ret
                exact ⟨_, _, _, rfl, HA.out, below_next b5 hbE⟩

end Go.Proofs.YtafnjbmeponobaaGreatDoor

namespace Go.Proofs.YtafnjbmeponobaaGreatDoor
open Go.RowKit

theorem drewN2 (w : World) (a b : Nat) : ∃ k, (w.drewN a).drewN b = w.drewN k := ⟨_, World.drewN_drewN w a b⟩

set_option maxHeartbeats 1600000 in
theorem same_any (A A' : Option Addr) (n n' c c' : Nat) (xs ys : List Int) (B : Nat) (w : World) (h : Arr iv w B (.slice A n c) xs) (h' : Arr iv w B (.slice A' n' c') ys) (hn : n ≤ 9223372036854775807) (hn' : n' ≤ 9223372036854775807) :
    Calls Tryz.prog 18 #[.slice A n c, .slice A' n' c'] w fun e w' => e = .returned (.bool (decide (xs = ys))) ∧ ∃ k, w' = w.drewN k := by
  have HL := Lib.hid h.len
  have HM := Lib.hid h'.len
  by_cases hnn : n = n'
  · subst hnn
    go_enter Tryz.func18, Tryz.ntmps18
    go_wp2
    go_loopw [5] (fun i wr => ∃ k q : Nat, k ≤ n ∧ i = .int .i64 (k : Int) ∧ Hid (xs.take k = ys.take k) ∧ wr = w.drewN q) (fun i _ => n - (intOf i).toNat)
    case atStart => exact ⟨0, 0, by omega, rfl, Lib.hid rfl, rfl⟩
    case round =>
      obtain ⟨k, q, hk, rfl, HT, rfl⟩ := hrel
      by_cases hlt : k < n
      · obtain ⟨b0, o0, rfl, hB0, hc0⟩ := h.some_ (by omega)
        obtain ⟨b1, o1, rfl, hB1, hc1⟩ := h'.some_ (by omega)
        obtain ⟨x, hx⟩ : ∃ a, xs[k]? = some a := ⟨_, List.getElem?_eq_getElem (by have := HL.out; omega)⟩
        obtain ⟨y, hy⟩ : ∃ a, ys[k]? = some a := ⟨_, List.getElem?_eq_getElem (by have := HM.out; omega)⟩
        have d0 := hc0 k x hx
        have d1 := hc1 k y hy
        simp only [iv] at d0 d1
        have i0 : (k : Int) < (n : Int) := by omega
        have ih0 : (0 : Int) ≤ (k : Int) := by omega
        by_cases hxy : x = y
        · subst hxy
          have t1 : (x != x) = false := by simp
          have HT2 : Hid (xs.take (k + 1) = ys.take (k + 1)) := Lib.hid (by rw [take_next hx, take_next hy, HT.out])
          clear hc0 hc1 hx hy
          go_wp2
          go_quiet (fail)
          go_wp2
          go_roundw
          case rel => exact ⟨k + 1, _, by omega, by go_num, HT2, by first | exact World.drewN_drewN _ _ _ | rfl⟩
          case measure => simp [intOf]; omega
        · have t1 : (x != y) = true := by simpa using hxy
          have HF : Hid (decide (xs = ys) = false) := Lib.hid (by
            rw [decide_eq_false]
            rintro rfl
            rw [hx] at hy
            injection hy with hy
            exact hxy hy)
          clear hc0 hc1 hx hy hxy
          go_wp2
          go_quiet (fail)
          go_wp2
          go_ret
          exact ⟨ret_bool (by rw [HF.out]), by first | exact drewN2 _ _ _ | exact ⟨_, rfl⟩⟩
      · obtain rfl : k = n := by omega
        have HF : Hid (decide (xs = ys) = true) := Lib.hid (by
          have e := HT.out
          rw [List.take_of_length_le (by have := HL.out; omega), List.take_of_length_le (by have := HM.out; omega)] at e
          rw [decide_eq_true e])
        go_wp2
        go_ret
        exact ⟨ret_bool (by rw [HF.out]), _, rfl⟩
  · have t1 : ((n : Int) != (n' : Int)) = true := by simp; omega
    have HF : Hid (decide (xs = ys) = false) := Lib.hid (by
      rw [decide_eq_false]
      rintro rfl
      exact hnn (HL.out.symm.trans HM.out))
    clear hnn
    go_enter Tryz.func18, Tryz.ntmps18
    go_wp2
    go_ret
    exact ⟨ret_bool (by rw [HF.out]), 0, rfl⟩


end Go.Proofs.YtafnjbmeponobaaGreatDoor

namespace Go.Proofs.YtafnjbmeponobaaGreatDoor
open Go.RowKit

/-- The one string that a call of few is handed, in a slice of the call's own. -/
theorem one_arr (s : List UInt8) (w : World) : Arr sv (w.alloc (.cells #[.string (str s)] 9)) (w.alloc (.cells #[.string (str s)] 9)).heap.size (.slice (some ⟨w.heap.size, 0, none⟩) 1 1) [s] := by
  have h : Arr sv (w.alloc (.cells #[.string (str s)] 9)) (w.heap.size + 1) (.slice (some ⟨w.heap.size, 0, none⟩) 1 1) [s] := Arr.of_box (Box.made w _ _) rfl (Nat.le_refl _) (fun i u hu => by
    match i, hu with
    | 0, hu => simp at hu; subst hu; rfl
    | i + 1, hu => simp at hu)
  have e : (w.alloc (.cells #[.string (str s)] 9)).heap.size = w.heap.size + 1 := by simp
  rw [e]
  exact h
theorem nPrim_len (t : List RuleL) (s : List UInt8) : (nPrim t s).length ≤ 9 * s.length + 1000 := by
  unfold nPrim
  split
  · refine Nat.le_trans ?_ (elsT_len t s)
    unfold primL
    refine Nat.le_trans (List.length_filter_le _ _) ?_
    rw [List.length_map]
    exact Nat.le_refl _
  · simp

set_option maxRecDepth 20000 in
set_option maxHeartbeats 6400000 in
theorem collateKeys_v (A : Option Addr) (n c : Nat) (t : List RuleL) (s : List UInt8) (w : World) (hS : Spans w) (h : Given8 w A n c t) (hs : s.length ≤ 9223372036854775807) :
    Calls Tryz.prog 3 #[.slice A n c, .string (str s)] w fun e w' => e = .returned (.bool true) ∧ Below w.heap.size w w' := by
  have HAw := Lib.hid (awake8_any w hS)
  have HFw := Lib.hid (fun (W : World) (hW : Below w.heap.size w W) => few8_any A n c t _ 1 1 [s] (W.alloc (.cells #[.string (str s)] 9)) ((h.up hW).up ((Below.refl _ _).alloc (Nat.le_refl _) _)) (one_arr s W) (by omega) (by simpa using hs))
  have hA1 := fun (W : World) (hW : Below w.heap.size w W) => hW.alloc hW.size (.cells #[.string (str s)] 9)
  have HA1 := Lib.hid hA1
  cases hf : fewT t [s] with
  | false =>
    rw [hf] at HFw
    clear hS h hf hA1
    go_enter Tryz.func3, Tryz.ntmps3
    go_wp2_with fail
    refine HAw.out.mono ?_
    rintro e w1 ⟨rfl, k1⟩
    go_wp2_with fail
    refine (HFw.out _ k1).mono ?_
    rintro e w2 ⟨rfl, k2⟩
    have b2 := below_next (HA1.out _ k1) k2
    go_wp2
    go_ret
    exact ⟨rfl, b2⟩
  | true =>
    rw [hf] at HFw
    have hT := h.tab hf
    obtain ⟨-, -, hs40⟩ := few_parts hf
    have hs4 : s.length ≤ 40 := hs40 s (by simp)
    have HOw := Lib.hid (fun (W : World) (hW : Below w.heap.size w W) => own8_any A n c t W (hT.up hW))
    have HPV := Lib.hid (fun (W : World) (hW : Below w.heap.size w W) (A' : Option Addr) (c' : Nat) (h' : Tab8 W A' n c' t) => prValid_any A' n c' t W (hS.below hW) h'.arr h'.few h'.short)
    have HRV := Lib.hid (fun (W : World) (hW : Below w.heap.size w W) => refValid8_any A n c t W (hT.up hW))
    have HPK := Lib.hid (fun (W : World) (hW : Below w.heap.size w W) (A' : Option Addr) (c' : Nat) (h' : Tab8 W A' n c' t) => prKeyX_any A' n c' t s W (hS.below hW) h' (by omega))
    have HRK := Lib.hid (fun (W : World) (hW : Below w.heap.size w W) => refKey8_any A n c t s W (hT.up hW) (by omega))
    have HPP := Lib.hid (fun (W : World) (hW : Below w.heap.size w W) (A' : Option Addr) (c' : Nat) (h' : Tab8 W A' n c' t) => prPrimary_any A' n c' t s W (hS.below hW) h' (by omega))
    have HRP := Lib.hid (fun (W : World) (hW : Below w.heap.size w W) => refPrimary8_any A n c t s W (hT.up hW) (by omega))
    have HPl := Lib.hid (nPrim_len t s)
    obtain ⟨V, hV⟩ : ∃ V, validT t = V := ⟨_, rfl⟩
    obtain ⟨K, hK⟩ : ∃ K, nKey t s = K := ⟨_, rfl⟩
    obtain ⟨P, hP⟩ : ∃ P, nPrim t s = P := ⟨_, rfl⟩
    rw [hV] at HPV HRV
    rw [hK] at HPK HRK
    rw [hP] at HPP HRP HPl
    clear hS h hf hA1 hT hs40 hV hK hP
    go_enter Tryz.func3, Tryz.ntmps3
    go_wp2_with fail
    refine HAw.out.mono ?_
    rintro e w1 ⟨rfl, k1⟩
    go_wp2_with fail
    refine (HFw.out _ k1).mono ?_
    rintro e w2 ⟨rfl, k2⟩
    have b2 := below_next (HA1.out _ k1) k2
    go_wp2_with fail
    refine (HOw.out _ b2).mono ?_
    rintro e w3 ⟨A3, c3, rfl, hT3, k3⟩
    have b3 := below_next b2 k3
    have HC := Lib.hid (HPV.out _ b3 A3 c3 hT3)
    clear hT3
    go_wp2_with fail
    refine HC.out.mono ?_
    rintro e w4 ⟨rfl, k4⟩
    have b4 := below_next b3 k4
    go_wp2_with fail
    refine (HRV.out _ b4).mono ?_
    rintro e w5 ⟨rfl, k5⟩
    have b5 := below_next b4 k5
    have hVV : (V == V) = true := by simp
    go_wp2_with fail
    refine (HOw.out _ b5).mono ?_
    rintro e w6 ⟨A6, c6, rfl, hT6, k6⟩
    have b6 := below_next b5 k6
    have HC2 := Lib.hid (HPK.out _ b6 A6 c6 hT6)
    clear hT6
    go_wp2_with fail
    refine HC2.out.mono ?_
    rintro e w7 ⟨A7, n7, c7, rfl, hK7, k7⟩
    have b7 := below_next b6 k7
    have HK7 := Lib.hid hK7
    clear hK7
    go_wp2_with fail
    refine (HRK.out _ b7).mono ?_
    rintro e w8 ⟨A8, n8, c8, rfl, hK8, k8⟩
    have b8 := below_next b7 k8
    have HC3 := Lib.hid (bytesEqual_any A7 n7 c7 A8 n8 c8 K K w8.heap.size w8 (HK7.out.up k8) hK8)
    rw [decide_eq_true rfl] at HC3
    clear hK8
    go_wp2_with fail
    refine HC3.out.mono ?_
    rintro e w9 ⟨rfl, rfl⟩
    go_wp2_with fail
    refine (HOw.out _ b8).mono ?_
    rintro e w10 ⟨A10, c10, rfl, hT10, k10⟩
    have b10 := below_next b8 k10
    have HC4 := Lib.hid (HPP.out _ b10 A10 c10 hT10)
    clear hT10
    go_wp2_with fail
    refine HC4.out.mono ?_
    rintro e w11 ⟨A11, n11, c11, rfl, hP11, k11⟩
    have b11 := below_next b10 k11
    have HP11 := Lib.hid hP11
    clear hP11
    go_wp2_with fail
    refine (HRP.out _ b11).mono ?_
    rintro e w12 ⟨A12, n12, c12, rfl, hP12, k12⟩
    have b12 := below_next b11 k12
    have hn11 := HP11.out.len
    have hn12 := hP12.len
    have hPl := HPl.out
    have HC5 := Lib.hid (same_any A11 A12 n11 n12 c11 c12 _ _ w12.heap.size w12 (HP11.out.up k12).int hP12.int (by omega) (by omega))
    rw [decide_eq_true rfl] at HC5
    clear hP12 hn11 hn12 hPl
    go_wp2_with fail
    refine HC5.out.mono ?_
    rintro e w13 ⟨rfl, q13, rfl⟩
    go_wp2
    go_ret
    exact ⟨rfl, below_drewN b12 _⟩

end Go.Proofs.YtafnjbmeponobaaGreatDoor

namespace Go.Proofs.YtafnjbmeponobaaGreatDoor
open Go.RowKit

/-- The two strings that a call of few is handed, in a slice of the call's own. -/
theorem two_arr (s s2 : List UInt8) (w : World) : Arr sv (w.alloc (.cells #[.string (str s), .string (str s2)] 9)) (w.alloc (.cells #[.string (str s), .string (str s2)] 9)).heap.size (.slice (some ⟨w.heap.size, 0, none⟩) 2 2) [s, s2] := by
  have h : Arr sv (w.alloc (.cells #[.string (str s), .string (str s2)] 9)) (w.heap.size + 1) (.slice (some ⟨w.heap.size, 0, none⟩) 2 2) [s, s2] := Arr.of_box (Box.made w _ _) rfl (Nat.le_refl _) (fun i u hu => by
    match i, hu with
    | 0, hu => simp at hu; subst hu; rfl
    | 1, hu => simp at hu; subst hu; rfl
    | i + 2, hu => simp at hu)
  have e : (w.alloc (.cells #[.string (str s), .string (str s2)] 9)).heap.size = w.heap.size + 1 := by simp
  rw [e]
  exact h
theorem equal_at {t : List RuleL} {a b : List UInt8} (hv : validT t = true) (ha : (decR a).isSome = true) (hb : (decR b).isSome = true) : (nCmp t a b == 0) = nEq a b := by
  have h := nCmp_zero (t := t) (a := a) (b := b) (by unfold goodT; rw [ha, hv]; rfl) (by unfold goodT; rw [hb, hv]; rfl)
  unfold nEq
  rw [ha, hb, Bool.true_and, Bool.true_and, Bool.eq_iff_iff, beq_iff_eq, decide_eq_true_eq]
  exact h

set_option maxRecDepth 20000 in
set_option maxHeartbeats 6400000 in
theorem collateEqual_v (A : Option Addr) (n c : Nat) (t : List RuleL) (a b : List UInt8) (w : World) (hS : Spans w) (h : Given8 w A n c t) (ha : a.length ≤ 1048576) (hb : b.length ≤ 1048576) :
    Calls Tryz.prog 6 #[.slice A n c, .string (str a), .string (str b)] w fun e w' => e = .returned (.bool true) ∧ Below w.heap.size w w' := by
  have HAw := Lib.hid (awake8_any w hS)
  have HD1 := Lib.hid (fun W => refDecode_any a W (by omega))
  have HD2 := Lib.hid (fun W => refDecode_any b W (by omega))
  have HFw := Lib.hid (fun (W : World) (hW : Below w.heap.size w W) => few8_any A n c t _ 2 2 [a, b] (W.alloc (.cells #[.string (str a), .string (str b)] 9)) ((h.up hW).up ((Below.refl _ _).alloc (Nat.le_refl _) _)) (two_arr a b W) (by omega) (by simp; omega))
  have hA1 := fun (W : World) (hW : Below w.heap.size w W) => hW.alloc hW.size (.cells #[.string (str a), .string (str b)] 9)
  have HA1 := Lib.hid hA1
  obtain ⟨r, hr⟩ : ∃ r, decR a = r := ⟨_, rfl⟩
  obtain ⟨r2, hr2⟩ : ∃ r, decR b = r := ⟨_, rfl⟩
  rw [hr] at HD1
  rw [hr2] at HD2
  cases hf : fewT t [a, b] with
  | false =>
    rw [hf] at HFw
    clear hS h hf hA1 hr hr2
    go_enter Tryz.func6, Tryz.ntmps6
    go_wp2_with fail
    refine HAw.out.mono ?_
    rintro e w1 ⟨rfl, k1⟩
    go_wp2_with fail
    refine (HD1.out _).mono ?_
    rintro e w2 ⟨hde, k2⟩
    obtain ⟨A2, n2, c2, b2, rfl, -⟩ := hde.form
    have e2 := below_next k1 k2
    go_wp2_with fail
    refine (HD2.out _).mono ?_
    rintro e w3 ⟨hde3, k3⟩
    obtain ⟨A3, n3, c3, b3, rfl, -⟩ := hde3.form
    have e3 := below_next e2 k3
    clear hde hde3
    go_wp2_with fail
    refine (HFw.out _ e3).mono ?_
    rintro e w4 ⟨rfl, k4⟩
    have e4 := below_next (HA1.out _ e3) k4
    go_wp2
    go_ret
    exact ⟨rfl, e4⟩
  | true =>
    rw [hf] at HFw
    have hT := h.tab hf
    obtain ⟨-, -, hs40⟩ := few_parts hf
    have ha4 : a.length ≤ 40 := hs40 a (by simp)
    have hb4 : b.length ≤ 40 := hs40 b (by simp)
    have HOw := Lib.hid (fun (W : World) (hW : Below w.heap.size w W) => own8_any A n c t W (hT.up hW))
    have HRV := Lib.hid (fun (W : World) (hW : Below w.heap.size w W) => refValid8_any A n c t W (hT.up hW))
    have HPC := Lib.hid (fun (W : World) (hW : Below w.heap.size w W) (A' : Option Addr) (c' : Nat) (h' : Tab8 W A' n c' t) => prCompare_any A' n c' t a b W (hS.below hW) h' (by omega) (by omega))
    have HRE := Lib.hid (fun W => refEqual_any a b W (by omega) (by omega))
    have HEq : Hid (validT t = true → r.isSome = true → r2.isSome = true → (nCmp t a b == 0) = nEq a b) := Lib.hid (fun h1 h2 h3 => equal_at h1 (by rw [hr]; exact h2) (by rw [hr2]; exact h3))
    obtain ⟨V, hV⟩ : ∃ V, validT t = V := ⟨_, rfl⟩
    obtain ⟨K, hK⟩ : ∃ K, nCmp t a b = K := ⟨_, rfl⟩
    obtain ⟨E, hE⟩ : ∃ E, nEq a b = E := ⟨_, rfl⟩
    rw [hV] at HRV HEq
    rw [hK] at HPC HEq
    rw [hE] at HRE HEq
    clear hS h hf hA1 hT hs40 hV hK hE hr hr2
    go_enter Tryz.func6, Tryz.ntmps6
    go_wp2_with fail
    refine HAw.out.mono ?_
    rintro e w1 ⟨rfl, k1⟩
    go_wp2_with fail
    refine (HD1.out _).mono ?_
    rintro e w2 ⟨hde, k2⟩
    obtain ⟨A2, n2, c2, b2, rfl, hc2⟩ := hde.form
    have hb2 : r.isSome = b2 := by rcases hc2 with ⟨rfl, l, rfl, -, -, -⟩ | ⟨rfl, rfl, -, -, -⟩ <;> rfl
    have e2 := below_next k1 k2
    clear hc2
    go_wp2_with fail
    refine (HD2.out _).mono ?_
    rintro e w3 ⟨hde3, k3⟩
    obtain ⟨A3, n3, c3, b3, rfl, hc3⟩ := hde3.form
    have hb3 : r2.isSome = b3 := by rcases hc3 with ⟨rfl, l, rfl, -, -, -⟩ | ⟨rfl, rfl, -, -, -⟩ <;> rfl
    have e3 := below_next e2 k3
    rw [hb2, hb3] at HEq
    clear hde hde3 hc3 hb2 hb3
    go_wp2_with fail
    refine (HFw.out _ e3).mono ?_
    rintro e w4 ⟨rfl, k4⟩
    have e4 := below_next (HA1.out _ e3) k4
    go_wp2_with fail
    refine (HRV.out _ e4).mono ?_
    rintro e w5 ⟨rfl, k5⟩
    have e5 := below_next e4 k5
    cases V with
    | false =>
      go_wp2
      go_ret
      exact ⟨rfl, e5⟩
    | true =>
      cases b2 with
      | false =>
        go_wp2
        go_ret
        exact ⟨rfl, e5⟩
      | true =>
        cases b3 with
        | false =>
          go_wp2
          go_ret
          exact ⟨rfl, e5⟩
        | true =>
          have hq := HEq.out rfl rfl rfl
          clear HEq
          go_wp2_with fail
          refine (HOw.out _ e5).mono ?_
          rintro e w6 ⟨A6, c6, rfl, hT6, k6⟩
          have e6 := below_next e5 k6
          have HC := Lib.hid (HPC.out _ e6 A6 c6 hT6)
          clear hT6
          go_wp2_with fail
          refine HC.out.mono ?_
          rintro e w7 ⟨rfl, k7⟩
          have e7 := below_next e6 k7
          go_wp2_with fail
          refine (HRE.out _).mono ?_
          rintro e w8 ⟨rfl, k8⟩
          have e8 := below_next e7 k8
          have hq2 : ((K == 0) == E) = true := by rw [hq]; simp
          go_wp2
          go_ret
          exact ⟨rfl, e8⟩

end Go.Proofs.YtafnjbmeponobaaGreatDoor
