/-
  The body of TranslitLongest.
  Arguments that came in: slices of integers as lists, strings.
  An argument that is a slice of structs, as a list: given how one element reads.
  An argument that is a table of rules.
  The laws' bodies at arguments as the model holds them.
  What the listed variables and the world's shape say of the tables when a call begins.
-/
import Derived.Test.YtomkipddbmnipaaDoorPkAR
import Derived.Test.YtomkipddbmnipaaDoorWords
import Derived.ProofKit
import Derived.OpenShut
import Derived.SliceStrings
import Derived.ChangeArms
import Derived.Test.YtomkipddbmnipaaDoorPkAG
import Derived.Deep.Slices
import Derived.Lib.SmallJoins
import Derived.Test.YtomkipddbmnipaaDoorPkAQ
import Derived.ChangeSame
import Derived.Test.YtomkipddbmnipaaDoorRows
import Derived.Lib.LaidU8T
import Derived.PinnedBridge
import Derived.Shelf.Vars
namespace Go.Proofs.YtomkipddbmnipaaDoor
open Go.RowKit

/-- What the statement's loop has found so far. -/
def LState (cut : List UInt8) (o : Option RuleL) (f g : List UInt8) (z : Nat) : Prop :=
  match o with
  | none => f = cut ∧ g = cut ∧ z = 0
  | some y => f = y.1 ∧ g = y.2 ∧ z = y.1.length
theorem better_no {s : List UInt8} {o : Option RuleL} {x : RuleL} (h : begB s x.1 = false) : better s o x = o := by unfold better; rw [h]; rfl
theorem better_less {s : List UInt8} {o : Option RuleL} {x : RuleL} {cut f g : List UInt8} {z : Nat} (hL : LState cut o f g z) (h1 : 1 ≤ x.1.length) (h : ¬ z < x.1.length) : better s o x = o := by
  cases o with
  | none => obtain ⟨_, _, rfl⟩ := hL; omega
  | some y =>
    obtain ⟨_, _, rfl⟩ := hL
    unfold better
    rw [if_neg (by simp [h])]
theorem better_yes {s : List UInt8} {o : Option RuleL} {x : RuleL} {cut f g : List UInt8} {z : Nat} (hL : LState cut o f g z) (hb : begB s x.1 = true) (h : z < x.1.length) : better s o x = some x := by
  cases o with
  | none => unfold better; rw [hb]; rfl
  | some y =>
    obtain ⟨_, _, rfl⟩ := hL
    unfold better
    rw [hb]
    simp [h]
theorem longest_to {t : List RuleL} {s : List UInt8} {l : List Nat} {f g : List UInt8} {z : Nat} (hv : validL t = true) (hd : decR s = some l) (h0 : s ≠ []) (hL : LState (cut1 s) (bestL t s) f g z) :
    toL t s = g ++ toL t (s.drop f.length) ∧ f.length ≤ s.length := by
  have hg := good_of (valid_of hv)
  have hto : ∀ r m, decR r = some m → toL t r = (runL t r).1 := fun r m hr => by unfold toL; rw [if_pos ⟨hv, by rw [hr]; rfl⟩]
  cases hb : bestL t s with
  | none =>
    rw [hb] at hL
    obtain ⟨rfl, rfl, _⟩ := hL
    obtain ⟨c, m, _, _, hcut, hs, hm, _⟩ := cut1_some hd h0
    have hdr := drop_cut hcut hs
    have hle := len_enc hs
    have hr := run_none hg hd h0 hb
    rw [hto s l hd, hr, hdr, hto (encL m) m hm]
    exact ⟨rfl, by rw [hcut]; omega⟩
  | some y =>
    rw [hb] at hL
    obtain ⟨rfl, rfl, _⟩ := hL
    obtain ⟨hy, hby⟩ := best_mem hb
    obtain ⟨k, hk, _, _, _, _⟩ := side_enc (hg y hy)
    obtain ⟨m, hm, _⟩ := enc_rest hd hk hby
    have hr := run_some hg hd h0 hb
    rw [hto s l hd, hr, hto _ m hm]
    exact ⟨rfl, beg_len hby⟩

set_option maxRecDepth 20000 in
set_option maxHeartbeats 6400000 in
theorem translitLongest_v (A : Option Addr) (n c : Nat) (t : List RuleL) (s : List UInt8) (w : World) (hS : Ready7 w) (h : Given w A n c t) (hl : s.length ≤ 9223372036854775807) :
    Calls Tryd.prog 5 #[.slice A n c, .string (str s)] w fun e w' => e = .returned (.bool true) ∧ Below w.heap.size w w' := by
  have HG := Lib.hid h
  have hzs : (str s).size = s.length := rfl
  cases hf : fewL t with
  | false =>
    have HF := Lib.hid hf
    clear hf h
    go_enter Tryd.func5, Tryd.ntmps5
    go_wp2_with fail
    refine (awake7_any _ hS).mono ?_
    rintro e w1 ⟨rfl, k1⟩
    go_wp2_with fail
    refine (few7_any A n c t _ (HG.out.up k1)).mono ?_
    rintro e w2 ⟨rfl, rfl⟩
    rw [HF.out]
    go_wp2
    go_ret
    exact ⟨rfl, k1⟩
  | true =>
    have HF := Lib.hid hf
    have hT := h.table hf
    have HT := Lib.hid hT
    have HLen := Lib.hid h.arr.len
    by_cases gs : 40 < s.length
    · have ts : decide (40 < (s.length : Int)) = true := by simp; omega
      clear hf h hT
      go_enter Tryd.func5, Tryd.ntmps5
      go_wp2_with fail
      refine (awake7_any _ hS).mono ?_
      rintro e w1 ⟨rfl, k1⟩
      go_wp2_with fail
      refine (few7_any A n c t _ (HG.out.up k1)).mono ?_
      rintro e w2 ⟨rfl, rfl⟩
      rw [HF.out]
      go_wp2
      go_ret
      exact ⟨rfl, k1⟩
    have ts : decide (40 < (s.length : Int)) = false := by simp; omega
    have hls : s.length ≤ 5000 := by omega
    by_cases h0 : s = []
    · have z0 : (str s).toList = [] := by rw [str_toList]; exact h0
      have z1 : ((str s).toList == []) = true := by rw [z0]; rfl
      clear hf h hT h0
      go_enter Tryd.func5, Tryd.ntmps5
      go_wp2_with fail
      refine (awake7_any _ hS).mono ?_
      rintro e w1 ⟨rfl, k1⟩
      go_wp2_with fail
      refine (few7_any A n c t _ (HG.out.up k1)).mono ?_
      rintro e w2 ⟨rfl, rfl⟩
      rw [HF.out]
      go_wp2
      go_ret
      exact ⟨rfl, k1⟩
    have z0 : ¬ (str s).toList = [] := by rw [str_toList]; exact h0
    have z1 := strs_ne h0
    have z2 := strs_some h0
    obtain ⟨v, hv⟩ : ∃ q, validL t = q := ⟨_, rfl⟩
    have HV := Lib.hid hv
    cases v with
    | false =>
      clear hf h hT h0 hv
      go_enter Tryd.func5, Tryd.ntmps5
      go_wp2_with fail
      refine (awake7_any _ hS).mono ?_
      rintro e w1 ⟨rfl, k1⟩
      go_wp2_with fail
      refine (few7_any A n c t _ (HG.out.up k1)).mono ?_
      rintro e w2 ⟨rfl, rfl⟩
      rw [HF.out]
      go_wp2_with fail
      refine (refValid7_at w A n c t _ HT.out k1 false HV.out).mono ?_
      rintro e w4 ⟨rfl, k4⟩
      go_wp2
      go_ret
      exact ⟨rfl, k4⟩
    | true =>
      have HCut := Lib.hid fun W => refCut_any s 1 W (by omega)
      cases hd : decR s with
      | none =>
        rw [cutR_none hd] at HCut
        have z3 : (str ([] : List UInt8)).toList = [] := str_toList []
        clear hf h hT h0 hv hd
        go_enter Tryd.func5, Tryd.ntmps5
        go_wp2_with fail
        refine (awake7_any _ hS).mono ?_
        rintro e w1 ⟨rfl, k1⟩
        go_wp2_with fail
        refine (few7_any A n c t _ (HG.out.up k1)).mono ?_
        rintro e w2 ⟨rfl, rfl⟩
        rw [HF.out]
        go_wp2_with fail
        refine (refValid7_at w A n c t _ HT.out k1 true HV.out).mono ?_
        rintro e w4 ⟨rfl, k4⟩
        go_wp2_with fail
        refine (HCut.out _).mono ?_
        rintro e w5 ⟨rfl, k5⟩
        go_wp2
        go_ret
        exact ⟨rfl, below_next k4 k5⟩
      | some L =>
        have hc1 := cut_one hd h0
        rw [hc1] at HCut
        have hcne : cut1 s ≠ [] := by
          obtain ⟨ch, m, _, _, hcut, _⟩ := cut1_some hd h0
          rw [hcut]
          exact encC_ne ch
        have hcl : (cut1 s).length ≤ 5000 := by
          obtain ⟨ch, m, _, _, hcut, _⟩ := cut1_some hd h0
          have := encC_len ch
          rw [hcut]; omega
        have HSides := Lib.hid (valid_of hv).sides
        have HEnd := Lib.hid fun f g z hL => longest_to (f := f) (g := g) (z := z) hv hd h0 hL
        have HSh := Lib.hid fun x hx => (few_of hf).2 x hx
        have hn90 : n ≤ 90 := by have := HLen.out; have := (few_of hf).1; omega
        have hTol := to_len (t := t) (s := s) hf
        have HTol2 := Lib.hid fun r => to_len (t := t) (s := r) hf
        obtain ⟨cu, hcu⟩ : ∃ q, cut1 s = q := ⟨_, rfl⟩
        rw [hcu] at HCut hcne hcl HEnd
        have z3 : ¬ (str cu).toList = [] := by rw [str_toList]; exact hcne
        have z4 := strs_ne hcne
        have z5 := strs_some hcne
        clear hf h hT h0 hv hd hc1 hcu hcne
        go_enter Tryd.func5, Tryd.ntmps5
        go_wp2_with fail
        refine (awake7_any _ hS).mono ?_
        rintro e w1 ⟨rfl, k1⟩
        go_wp2_with fail
        refine (few7_any A n c t _ (HG.out.up k1)).mono ?_
        rintro e w2 ⟨rfl, rfl⟩
        rw [HF.out]
        go_wp2_with fail
        refine (refValid7_at w A n c t _ HT.out k1 true HV.out).mono ?_
        rintro e w4 ⟨rfl, k4⟩
        go_wp2_with fail
        refine (HCut.out _).mono ?_
        rintro e w5 ⟨rfl, k5⟩
        go_wp2_with fail
        refine (HCut.out _).mono ?_
        rintro e w6 ⟨rfl, k6⟩
        have p6 := below_next k4 (below_next k5 k6)
        have hT6 := HT.out.up p6
        have HT6 := Lib.hid hT6
        have HS6 := Lib.hid (hS.below p6)
        go_wp2
        go_loopw [5, 6, 7, 40] (fun fv gv zv i wr => ∃ (k z : Nat) (f g : List UInt8), k ≤ n ∧ i = .int .i64 (k : Int) ∧ fv = .string (str f) ∧ gv = .string (str g) ∧ zv = .int .i64 (z : Int) ∧ Hid (LState cu ((t.take k).foldl (better s) none) f g z) ∧ z ≤ 5000 ∧ f.length ≤ 5000 ∧ g.length ≤ 5000 ∧ Below w6.heap.size w6 wr) (fun _ _ _ i _ => n - (intOf i).toNat)
        case atStart => exact ⟨0, 0, cu, cu, by omega, rfl, rfl, rfl, rfl, Lib.hid ⟨rfl, rfl, rfl⟩, by omega, hcl, hcl, Below.refl _ _⟩
        case round =>
          obtain ⟨k, z, f, g, hk, rfl, rfl, rfl, rfl, HL, hz, hfl, hgl, hb⟩ := hrel
          by_cases hlt : k < n
          · have i1 : decide ((k : Int) < (n : Int)) = true := by simp; omega
            have kz : (k : Int) < (n : Int) := by omega
            obtain ⟨b0, o0, rfl, hB0, hc0⟩ := hT6.cells (by omega)
            obtain ⟨x, hx⟩ : ∃ a, t[k]? = some a := ⟨_, List.getElem?_eq_getElem (by have := HLen.out; omega)⟩
            have hxm := List.mem_of_getElem? hx
            have hxs := HSh.out x hxm
            have hx1 : 1 ≤ x.1.length := List.length_pos_iff.2 (side_ne (HSides.out x hxm).1)
            have d0 := (hb.cell (p := ⟨b0, o0 + k * 2, none⟩) hB0).trans (hc0 k x hx).1
            have d1 := (hb.cell (p := ⟨b0, o0 + k * 2 + 1, none⟩) hB0).trans (hc0 k x hx).2
            have hfn := fold_next hx s
            have hbx := Box.made wr 34 #[.string (str x.1), .string (str x.2)]
            have e0 := hbx.cell 0
            have e1 := hbx.cell 1
            simp only [List.getElem?_toArray, List.getElem?_cons_zero, List.getElem?_cons_succ] at e0 e1
            have hbA := hb.alloc hb.size (.cells #[.string (str x.1), .string (str x.2)] 34)
            have s1 : (str x.1).size = x.1.length := rfl
            by_cases c1 : z < x.1.length
            · have t1 : decide (z < x.1.length) = true := by simpa using c1
              have t1' : decide ((z : Int) < (x.1.length : Int)) = true := by simp; omega
              by_cases c2 : x.1.length ≤ s.length
              · have t2 : decide (x.1.length ≤ s.length) = true := by simpa using c2
                have t2' : decide ((x.1.length : Int) ≤ (s.length : Int)) = true := by simp; omega
                have hsl := fun W => str_pre (P := Tryd.prog) 9 Tryd.underlying9 s x.1.length c2 W
                have hq := strs_beq (s.take x.1.length) x.1
                have hbe : begB s x.1 = decide (s.take x.1.length = x.1) := rfl
                obtain ⟨bb, hbb⟩ : ∃ b, decide (s.take x.1.length = x.1) = b := ⟨_, rfl⟩
                rw [hbb] at hq hbe
                obtain ⟨pr, hpr⟩ : ∃ p, s.take x.1.length = p := ⟨_, rfl⟩
                rw [hpr] at hsl hq
                obtain ⟨nx, hnx⟩ : ∃ q, x.1.length = q := ⟨_, rfl⟩
                rw [hnx] at hsl t1 t1' t2 t2' s1
                have hnx30 : nx ≤ 30 := by omega
                cases bb with
                | true =>
                  have HL2 : Hid (LState cu ((t.take (k + 1)).foldl (better s) none) x.1 x.2 nx) := Lib.hid (by
                    rw [hfn, better_yes HL.out hbe c1]
                    exact ⟨rfl, rfl, hnx.symm⟩)
                  have hxl1 : x.1.length ≤ 5000 := by omega
                  have hxl2 : x.2.length ≤ 5000 := by omega
                  clear hc0 hx hxm hfn hbe hbb hpr hnx c1 c2 hbx
                  go_wp2
                  go_quiet (fail)
                  go_wp2
                  go_quiet (fail)
                  go_wp2
                  go_roundw
                  case rel => exact ⟨k + 1, nx, x.1, x.2, by omega, by go_num, rfl, rfl, rfl, HL2, by omega, hxl1, hxl2, by repeat first | exact hbA | refine below_drewN ?_ _⟩
                  case measure => simp [intOf]; omega
                | false =>
                  have HL2 : Hid (LState cu ((t.take (k + 1)).foldl (better s) none) f g z) := Lib.hid (by rw [hfn, better_no hbe]; exact HL.out)
                  clear hc0 hx hxm hfn hbe hbb hpr hnx c1 c2 hbx
                  go_wp2
                  go_quiet (fail)
                  go_wp2
                  go_roundw
                  case rel => exact ⟨k + 1, z, f, g, by omega, by go_num, rfl, rfl, rfl, HL2, hz, hfl, hgl, by repeat first | exact hbA | refine below_drewN ?_ _⟩
                  case measure => simp [intOf]; omega
              · have t2 : decide (x.1.length ≤ s.length) = false := by simpa using c2
                have t2' : decide ((x.1.length : Int) ≤ (s.length : Int)) = false := by simp; omega
                have hbe : begB s x.1 = false := by
                  cases hbe : begB s x.1 with
                  | false => rfl
                  | true => exact absurd (beg_len hbe) c2
                have HL2 : Hid (LState cu ((t.take (k + 1)).foldl (better s) none) f g z) := Lib.hid (by rw [hfn, better_no hbe]; exact HL.out)
                clear hc0 hx hxm hfn hbe c1 c2 hbx
                go_wp2
                go_quiet (fail)
                go_wp2
                go_roundw
                case rel => exact ⟨k + 1, z, f, g, by omega, by go_num, rfl, rfl, rfl, HL2, hz, hfl, hgl, by repeat first | exact hbA | refine below_drewN ?_ _⟩
                case measure => simp [intOf]; omega
            · have t1 : decide (z < x.1.length) = false := by simpa using c1
              have t1' : decide ((z : Int) < (x.1.length : Int)) = false := by simp; omega
              have HL2 : Hid (LState cu ((t.take (k + 1)).foldl (better s) none) f g z) := Lib.hid (by rw [hfn, better_less HL.out hx1 c1]; exact HL.out)
              clear hc0 hx hxm hfn c1 hbx
              go_wp2
              go_quiet (fail)
              go_wp2
              go_roundw
              case rel => exact ⟨k + 1, z, f, g, by omega, by go_num, rfl, rfl, rfl, HL2, hz, hfl, hgl, by repeat first | exact hbA | refine below_drewN ?_ _⟩
              case measure => simp [intOf]; omega
          · obtain rfl : k = n := by omega
            have hend := HEnd.out f g z (by have := HL.out; rwa [List.take_of_length_le (by rw [HLen.out]; omega)] at this)
            obtain ⟨he1, he2⟩ := hend
            have hsl := fun W => str_suf (P := Tryd.prog) 9 Tryd.underlying9 s f.length he2 W
            have s2 : (str f).size = f.length := rfl
            obtain ⟨r, hr⟩ : ∃ q, s.drop f.length = q := ⟨_, rfl⟩
            have hrl : r.length ≤ 5000 := by rw [← hr, List.length_drop]; omega
            rw [hr] at hsl he1
            obtain ⟨y, hy⟩ : ∃ q, toL t r = q := ⟨_, rfl⟩
            have hyl := HTol2.out r
            rw [hy] at hyl he1
            have hadd : ∀ W : World, (Op.stringOp .add (str g) (str y)).run Tryd.prog W = .ok (.string (str (g ++ y))) W := fun W => add_strs g y (by omega)
            obtain ⟨gy, hgy⟩ : ∃ q, g ++ y = q := ⟨_, rfl⟩
            rw [hgy] at hadd he1
            have HTs := Lib.hid he1
            have HTr := Lib.hid hy
            have qg : ((str gy).toList == (str gy).toList) = true := beq_self_eq_true _
            have HT7 := Lib.hid (HT6.out.up hb)
            clear he1 he2 hr hy hgy
            go_wp2_with fail
            refine (own7_any A k c t _ HT7.out).mono ?_
            rintro e w7 ⟨A7, c7, rfl, T7, k7⟩
            have p7 := below_next hb k7
            have HS7 := Lib.hid (HS6.out.below p7)
            have HO7 := Lib.hid T7
            have HC1 := Lib.hid fun v (hv : Below w7.heap.size w7 v) => prTo7_at w7 A7 k c7 t s v HS7.out HO7.out hv hls gy HTs.out
            have HC2 := Lib.hid fun v (hv : Below w7.heap.size w7 v) => prTo7_at w7 A7 k c7 t r v HS7.out HO7.out hv hrl y HTr.out
            have hk7 := (Below.refl w7.heap.size w7).drew
            clear T7
            go_wp2
            go_region_held3 (fun v => Below w7.heap.size w7 v) (first | exact hk7 | exact hbI)
              (first
                | (go_at_call 17; (with_reducible refine (HC1.out _ ?_).mono ?_); go_must (first | exact hk7 | exact hbI); rintro e wI ⟨rfl, hbI⟩)
                | (go_at_call 17; (with_reducible refine (HC2.out _ ?_).mono ?_); go_must (first | exact hk7 | exact hbI); rintro e wI ⟨rfl, hbI⟩))
            all_goals
              go_wp2
              go_ret
              exact ⟨rfl, below_next p6 (below_next p7 hbI)⟩

end Go.Proofs.YtomkipddbmnipaaDoor

namespace Go.Proofs.YtomkipddbmnipaaDoor
open Go.RowKit

theorem cell_block {W : World} {a : Addr} {v : Value} (h : W.cell? a = some v) : a.block < W.heap.size := World.block_lt_of_cell? W a h

theorem arr_of_ints {W : World} {x : Addr} {l c : Nat} {zs : List Int} (hl : l ≤ c) (hz : zs.length = c) (hcell : ∀ i, i < zs.length → W.cell? (x.add i) = some (.int .i64 (zs.getD i 0))) :
    ∃ xs, Arr iv W W.heap.size (.slice (some x) l c) xs ∧ xs.length = l := by
  have hlen : (zs.take l).length = l := by rw [List.length_take]; omega
  refine ⟨zs.take l, .inr ⟨x, c, by rw [hlen], by rw [hlen]; exact hl, fun h0 => ?_, fun i u hu => ?_⟩, hlen⟩
  · rw [hlen] at h0
    have := cell_block (hcell 0 (by omega))
    rwa [add_block] at this
  · have hi : i < l := by rw [← hlen]; exact (List.getElem?_eq_some_iff.1 hu).1
    rw [hcell i (by omega)]
    rw [List.getElem?_take, if_pos hi, List.getElem?_eq_getElem (show i < zs.length by omega)] at hu
    simp only [Option.some.injEq] at hu
    have hz' : zs.getD i 0 = zs[i]'(by omega) := by simp [List.getD, List.getElem?_eq_getElem (show i < zs.length by omega)]
    rw [hz', hu]
    rfl

theorem open_i {W : World} {x : Addr} {l c : Nat} {zs : List Int} (hl : l ≤ c) (hm : c ≤ maxLen) (hz : zs.length = c) (hcell : ∀ i, i < zs.length → W.cell? (x.add i) = some (.int .i64 (zs.getD i 0))) :
    ∃ xs, Arr iv W W.heap.size (.slice (some x) l c) xs ∧ xs.length = l ∧ l ≤ 9223372036854775807 := by
  obtain ⟨xs, h1, h2⟩ := arr_of_ints hl hz hcell
  unfold maxLen at hm
  exact ⟨xs, h1, h2, by omega⟩

theorem arr_of_texts {W : World} {x : Addr} {l c : Nat} {ss : List ByteArray} (hl : l ≤ c) (hz : l ≤ ss.length) (hcell : ∀ i, i < ss.length → W.cell? (x.add i) = some (.string (ss.getD i ByteArray.empty)))
    (hws : ∀ s ∈ ss, s.size ≤ maxLen) : ∃ xs, Arr sv W W.heap.size (.slice (some x) l c) xs ∧ xs.length = l ∧ ∀ s ∈ xs, s.length ≤ maxLen := by
  have hlen : ((ss.take l).map fun b => b.data.toList).length = l := by rw [List.length_map, List.length_take]; omega
  refine ⟨(ss.take l).map fun b => b.data.toList, .inr ⟨x, c, by rw [hlen], by rw [hlen]; exact hl, fun h0 => ?_, fun i u hu => ?_⟩, hlen, fun s hs => ?_⟩
  · rw [hlen] at h0
    have := cell_block (hcell 0 (by omega))
    rwa [add_block] at this
  · have hi : i < l := by rw [← hlen]; exact (List.getElem?_eq_some_iff.1 hu).1
    rw [hcell i (by omega)]
    rw [List.getElem?_map, List.getElem?_take, if_pos hi, List.getElem?_eq_getElem (show i < ss.length by omega)] at hu
    simp only [Option.map_some, Option.some.injEq] at hu
    have hz' : ss.getD i ByteArray.empty = ss[i]'(by omega) := by simp [List.getD, List.getElem?_eq_getElem (show i < ss.length by omega)]
    rw [hz', ← hu]
    unfold sv
    rw [str_data]
  · obtain ⟨b, hb, rfl⟩ := List.mem_map.1 hs
    have := hws b (List.mem_of_mem_take hb)
    exact this
theorem open_t {W : World} {x : Addr} {l c : Nat} {ss : List ByteArray} (hl : l ≤ c) (hm : c ≤ maxLen) (hz : l ≤ ss.length) (hcell : ∀ i, i < ss.length → W.cell? (x.add i) = some (.string (ss.getD i ByteArray.empty)))
    (hws : ∀ s ∈ ss, s.size ≤ maxLen) : ∃ xs, Arr sv W W.heap.size (.slice (some x) l c) xs ∧ xs.length = l ∧ l ≤ 9223372036854775807 ∧ ∀ s ∈ xs, s.length ≤ maxLen := by
  obtain ⟨bs, h1, h2, h3⟩ := arr_of_texts hl hz hcell hws
  unfold maxLen at hm
  exact ⟨bs, h1, h2, by omega, h3⟩

theorem open_b8 {W : World} {x : Addr} {l c : Nat} {zs : List Int} (hl : l ≤ c) (hm : c ≤ maxLen) (hz : zs.length = c) (hcell : ∀ i, i < zs.length → W.cell? (x.add i) = some (.int .u8 (zs.getD i 0)))
    (hwz : ∀ n ∈ zs, (Lit.int .u8 n).wf = true) : ∃ bs, Arr bv W W.heap.size (.slice (some x) l c) bs ∧ bs.length = l ∧ l ≤ 9223372036854775807 := by
  have hlen : ((zs.take l).map fun z => UInt8.ofNat z.toNat).length = l := by rw [List.length_map, List.length_take]; omega
  unfold maxLen at hm
  refine ⟨(zs.take l).map fun z => UInt8.ofNat z.toNat, .inr ⟨x, c, by rw [hlen], by rw [hlen]; exact hl, fun h0 => ?_, fun i u hu => ?_⟩, hlen, by omega⟩
  · rw [hlen] at h0
    have := cell_block (hcell 0 (by omega))
    rwa [add_block] at this
  · have hi : i < l := by rw [← hlen]; exact (List.getElem?_eq_some_iff.1 hu).1
    rw [hcell i (by omega)]
    rw [List.getElem?_map, List.getElem?_take, if_pos hi, List.getElem?_eq_getElem (show i < zs.length by omega)] at hu
    simp only [Option.map_some, Option.some.injEq] at hu
    have hz' : zs.getD i 0 = zs[i]'(by omega) := by simp [List.getD, List.getElem?_eq_getElem (show i < zs.length by omega)]
    rw [hz']
    have hb := Go.bounds_u8 (hwz _ (List.getElem_mem (show i < zs.length by omega)))
    subst hu
    unfold bv
    rw [UInt8.toNat_ofNat', Nat.mod_eq_of_lt (by omega), Int.toNat_of_nonneg hb.1]

end Go.Proofs.YtomkipddbmnipaaDoor

namespace Go.Proofs.YtomkipddbmnipaaDoor
open Go.RowKit Go.ChangeShapes Go.WideShapes Go.Deep Go.Joins

theorem sarr_open {H : Type} {enc : TypeId × Value → H} {P : Program} {W : World} {base : Nat} {spare : Nat → Bool} {held : Bool} {fuel : Nat} {cs : List Value} {x : DataW H × List MemPlace}
    {t e : TypeId} {sz : Nat} {α : Type} {val : α → List Value} (Good : α → Prop) (ht : P.underlying t = some (.slice e)) (hk : P.cellsOf e = sz) (hs : 0 < sz) (hv : ∀ u, (val u).length = sz)
    (helem : ∀ (n : Nat) (cs : List Value) (x : DataW H × List MemPlace), DataW.trod enc P W base spare held n e cs = some x → ∃ u, cs = val u ∧ Good u)
    (h : DataW.trod enc P W base spare held fuel t cs = some x) :
    ∃ A n c xs, cs = [.slice A n c] ∧ SArr sz val W W.heap.size (.slice A n c) xs ∧ xs.length = n ∧ n ≤ 9223372036854775807 ∧ ∀ u ∈ xs, Good u := by
  rcases open_slice ht h with ⟨rfl, _⟩ | ⟨a, len, cap, m, n, D, Pl, rfl, hb, hl, hm, hmm, _, hi⟩
  · exact ⟨none, 0, 0, [], rfl, .inl ⟨rfl, rfl⟩, rfl, by omega, by simp⟩
  · unfold maxLen at hm
    have hml : len ≤ m := by rw [hmm]; split <;> omega
    by_cases h0 : len = 0
    · subst h0
      exact ⟨some a, 0, cap, [], rfl, .inr ⟨a, cap, rfl, by simp, by simp, by simp⟩, rfl, by omega, by simp⟩
    · have hel : ∀ i, i < len → ∃ u : α, (∀ j v, (val u)[j]? = some v → W.cell? (a.add (i * sz + j)) = some v) ∧ Good u := by
        intro i hil
        obtain ⟨cs', hc, ht'⟩ := hi i (by omega)
        rw [hk] at hc
        obtain ⟨u, rfl, hg⟩ := helem n cs' _ ht'
        obtain ⟨_, hcl, hat⟩ := World.cells?_some hc
        refine ⟨u, fun j v hj => ?_, hg⟩
        have hjl : j < sz := by rw [← hv u]; exact (List.getElem?_eq_some_iff.1 hj).1
        have := hat j hjl
        rw [Go.Deep.add_add] at this
        rw [this, hj]
      obtain ⟨u0, _, _⟩ := hel 0 (by omega)
      have hel2 : ∀ i, ∃ u : α, i < len → (∀ j v, (val u)[j]? = some v → W.cell? (a.add (i * sz + j)) = some v) ∧ Good u := fun i => by
        by_cases hil : i < len
        · obtain ⟨u, h1, h2⟩ := hel i hil
          exact ⟨u, fun _ => ⟨h1, h2⟩⟩
        · exact ⟨u0, fun h => absurd h hil⟩
      obtain ⟨f, hf⟩ := Classical.skolem.1 hel2
      have hlen : ((List.range len).map f).length = len := by simp
      have hget : ∀ i u, ((List.range len).map f)[i]? = some u → i < len ∧ f i = u := by
        intro i u hu
        have hil : i < len := by rw [← hlen]; exact (List.getElem?_eq_some_iff.1 hu).1
        rw [List.getElem?_map, List.getElem?_range hil] at hu
        exact ⟨hil, by simpa using hu⟩
      refine ⟨some a, len, cap, (List.range len).map f, rfl, .inr ⟨a, cap, by rw [hlen], by rw [hlen]; exact hl, fun _ => ?_, fun i u hu j v hj => ?_⟩, hlen, by omega, fun u hu => ?_⟩
      · have h1 := (hf 0 (by omega)).1 0 _ (List.getElem?_eq_getElem (by rw [hv]; exact hs))
        have := cell_block h1
        rwa [add_block] at this
      · obtain ⟨hil, rfl⟩ := hget i u hu
        exact (hf i hil).1 j v hj
      · obtain ⟨i, hi'⟩ := List.getElem?_of_mem hu
        obtain ⟨hil, rfl⟩ := hget i u hi'
        exact (hf i hil).2

end Go.Proofs.YtomkipddbmnipaaDoor

namespace Go.Proofs.YtomkipddbmnipaaDoor
open Go.RowKit Go.ChangeShapes Go.WideShapes Go.Deep Go.Joins

set_option maxRecDepth 100000 in
theorem rule_elem {H : Type} {enc : TypeId × Value → H} {W : World} {base : Nat} {spare : Nat → Bool} {held : Bool} (n : Nat) (cs : List Value) (x : DataW H × List MemPlace)
    (h : DataW.trod enc Tryd.prog W base spare held n 34 cs = some x) : ∃ u : RuleL, cs = rv u ∧ (u.1.length ≤ 9223372036854775807 ∧ u.2.length ≤ 9223372036854775807) := by
  have k2 : Tryd.prog.cellsOf 34 = 2 := by kernel_rfl
  have k1 : Tryd.prog.cellsOf 9 = 1 := by kernel_rfl
  obtain ⟨y0, y1, m, _, hl, h0, h1⟩ := trod_struct2 Tryd.underlying34 h
  rw [k2] at hl
  obtain ⟨c0, c1, rfl⟩ : ∃ c0 c1, cs = [c0, c1] := by
    match cs, hl with
    | [c0, c1], _ => exact ⟨c0, c1, rfl⟩
  simp only [k1] at h0 h1
  obtain ⟨s0, e0, _, w0⟩ := DataW.trod_string Tryd.underlying9 h0
  obtain ⟨s1, e1, _, w1⟩ := DataW.trod_string Tryd.underlying9 h1
  simp at e0 e1
  subst e0 e1
  unfold maxLen at w0 w1
  refine ⟨(s0.data.toList, s1.data.toList), ?_, ?_, ?_⟩
  · unfold rv
    rw [str_data, str_data]
  · exact w0
  · exact w1
theorem rules_open {H : Type} {enc : TypeId × Value → H} {W : World} {base : Nat} {spare : Nat → Bool} {held : Bool} {fuel : Nat} {cs : List Value} {x : DataW H × List MemPlace}
    (h : DataW.trod enc Tryd.prog W base spare held fuel 22 cs = some x) : ∃ A n c t, cs = [.slice A n c] ∧ Given W A n c t := by
  obtain ⟨A, n, c, t, h1, h2, _, h4, h5⟩ := sarr_open (val := rv) (sz := 2) (fun u : RuleL => u.1.length ≤ 9223372036854775807 ∧ u.2.length ≤ 9223372036854775807) Tryd.underlying22 (by kernel_rfl) (by decide) rv_len rule_elem h
  exact ⟨A, n, c, t, h1, ⟨h2, h4, h5⟩⟩

end Go.Proofs.YtomkipddbmnipaaDoor

namespace Go.Proofs.YtomkipddbmnipaaDoor
open Go.RowKit

theorem len_of {b : ByteArray} (h : b.size ≤ maxLen) : b.data.toList.length ≤ 9223372036854775807 := by
  unfold maxLen at h
  have : b.data.toList.length = b.size := rfl
  omega
section
variable (A : Option Addr) (n c : Nat) (t : List RuleL) (b d : ByteArray) (w : World)
theorem translitTo_u (hS : Ready7 w) (hg : Given w A n c t) (h : b.size ≤ maxLen) :
    Calls Tryd.prog 3 #[.slice A n c, .string b] w fun e w' => e = .returned (.bool true) ∧ Below w.heap.size w w' := by
  rw [← str_data b]
  exact translitTo_v A n c t b.data.toList w hS hg (len_of h)
theorem translitRound_u (hS : Ready7 w) (hg : Given w A n c t) (h : b.size ≤ maxLen) :
    Calls Tryd.prog 4 #[.slice A n c, .string b] w fun e w' => e = .returned (.bool true) ∧ Below w.heap.size w w' := by
  rw [← str_data b]
  exact translitRound_v A n c t b.data.toList w hS hg (len_of h)
theorem translitLongest_u (hS : Ready7 w) (hg : Given w A n c t) (h : b.size ≤ maxLen) :
    Calls Tryd.prog 5 #[.slice A n c, .string b] w fun e w' => e = .returned (.bool true) ∧ Below w.heap.size w w' := by
  rw [← str_data b]
  exact translitLongest_v A n c t b.data.toList w hS hg (len_of h)
theorem translitJoins_u (hS : Ready7 w) (hg : Given w A n c t) (h : b.size ≤ maxLen) (h2 : d.size ≤ maxLen) :
    Calls Tryd.prog 6 #[.slice A n c, .string b, .string d] w fun e w' => e = .returned (.bool true) ∧ Below w.heap.size w w' := by
  rw [← str_data b, ← str_data d]
  exact translitJoins_v A n c t b.data.toList d.data.toList w hS hg (len_of h) (len_of h2)
theorem translitStays_u (hS : Ready7 w) (hg : Given w A n c t) (h : b.size ≤ 1048576) :
    Calls Tryd.prog 9 #[.slice A n c, .string b] w fun e w' => e = .returned (.bool true) ∧ Below w.heap.size w w' := by
  have e1 : b.data.toList.length = b.size := rfl
  rw [← str_data b]
  exact translitStays_v A n c t b.data.toList w hS hg (by omega)
end

end Go.Proofs.YtomkipddbmnipaaDoor

namespace Go.Proofs.YtomkipddbmnipaaDoor
open Go.RowKit Go.Shelf Go.Lib

theorem reads_flat {P : Program} {w : World} {n : String} {dd : DataW Unit} (h : VarReads P w n dd) {g t : Nat} (hg : P.globalNamed n = some g) (ht : (P.globals[g]?).map (·.type) = some t) (hp : plainTy P 8 t = true) :
    ∃ u fz, w.heap[g]? = some (.cells (flat dd).toArray u fz) := by
  obtain ⟨g', t', cs, fuel, p, hg', ht', hvar, hd⟩ := h
  obtain rfl := Option.some.inj (hg.symm.trans hg')
  obtain rfl := Option.some.inj (ht.symm.trans ht')
  have h1 := flat_of_trod 8 fuel t _ dd p hp hd
  unfold World.var? at hvar
  rw [hg] at hvar
  simp only [Option.bind_some] at hvar
  split at hvar
  · rename_i cs' u fz hh
    cases hvar
    refine ⟨u, fz, ?_⟩
    rw [hh, ← h1]
  · cases hvar
theorem u8_types : U8Types Tryd.prog ren7 := ⟨splitLays.t5, splitLays.t119, splitLays.t138, splitLays.t139⟩
theorem u8_extra : U8Extra Tryd.prog ren7 where
  n3 := by kernel_rfl
  n4 := by kernel_rfl
  y3 := by kernel_rfl
  y4 := by kernel_rfl
  c5 := by kernel_rfl
  c119 := by kernel_rfl
  c138 := by kernel_rfl
theorem accept_eq : Rows.laid_unicode_utf8_acceptRanges (H := Unit) = acceptData := by kernel_rfl
def laid7 : List (String × DataW Unit) := [("unicode/utf8.acceptRanges", Rows.laid_unicode_utf8_acceptRanges), ("bookplate/repertoire.spans", Rows.laid_bookplate_repertoire_spans), ("unicode/utf8.first", Rows.laid_unicode_utf8_first)]
theorem maxLen_cell {W : World} (hsh : W.ShapedOpen Tryd.prog) : ∃ m, W.cell? ⟨3, 0, none⟩ = some (.int .i64 m) :=
  cell_of_shapedOpen_int (t := 3) (zero := #[.int .i64 0]) hsh (of_decide_eq_true (by kernel_rfl)) (by kernel_rfl) rfl (by kernel_rfl) (by kernel_rfl) Tryd.underlying3
theorem ready_of_laid {W : World} (hL : laidMet Tryd.prog laid7 W) (hsh : W.ShapedOpen Tryd.prog) : Ready7 W := by
  have r1 : VarReads Tryd.prog W "bookplate/repertoire.spans" Rows.laid_bookplate_repertoire_spans := laidMet.reads hL (by simp [laid7])
  have r2 : VarReads Tryd.prog W "unicode/utf8.acceptRanges" acceptData := accept_eq ▸ laidMet.reads hL (by simp [laid7])
  have r3 : VarReads Tryd.prog W "unicode/utf8.first" firstData := Pinned.utf8First_eq ▸ laidMet.reads hL (n := "unicode/utf8.first") (d := Rows.laid_unicode_utf8_first) (by simp [laid7])
  obtain ⟨m, hm⟩ := maxLen_cell hsh
  refine ⟨?_, ⟨m, hm⟩, utf8Tabs_of_readsT u8_types u8_extra r3 r2, ?_⟩
  · obtain ⟨u, fz, h1⟩ := reads_flat r1 (g := 2) (t := 102) (by kernel_rfl) (by kernel_rfl) (by kernel_rfl)
    have e : (flat (Rows.laid_bookplate_repertoire_spans (H := Unit))).toArray = spanCells := by kernel_rfl
    rw [e] at h1
    exact ⟨u, fz, h1⟩
  · have := (Array.getElem?_eq_some_iff.1 (show W.heap[3]? = _ from (by
      unfold World.cell? at hm
      exact Option.eq_some_iff_get_eq.2 ⟨by cases hh : W.heap[3]? <;> simp [hh] at hm ⊢, rfl⟩))).1
    exact this

end Go.Proofs.YtomkipddbmnipaaDoor
