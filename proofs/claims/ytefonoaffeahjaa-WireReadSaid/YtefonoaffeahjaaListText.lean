/-
  The contract of the decoder of a list of texts.
-/
import Derived.Test.YtefonoaffeahjaaListDec
namespace Go.Proofs.Ytefonoaffeahjaa
open Go.RowKit

set_option maxHeartbeats 800000 in
theorem listTextDec_none (v fi : Value) (p2 : Value) (bs : List UInt8) (B g : Nat) (mx : Int) (w : World) (h : Sl w B v bs) (hlen : bs.length ≤ 1000000000000)
    (hg : w.cell? ⟨g, 0, none⟩ = some fi) (hi : IntDec w 0 mx fi) (hd : decI 0 mx bs = none) :
    Calls Try.prog 53 #[v, .pointer (some ⟨g, 0, none⟩), p2] w (LEnd 9 sv w B none) := by
  obtain ⟨g1, g2, rfl, c1, c2⟩ := hi
  go_enter Try.func53, Try.ntmps53
  go_wp2_with fail
  refine (intDec_any v bs B g1 g2 0 mx _ h hlen c1 c2).mono ?_
  rintro e w1 ⟨he, k, rfl⟩
  rw [hd] at he
  obtain ⟨y, v', rfl⟩ := he
  go_wp2
  go_ret3
  exact ⟨below_drewN (Below.refl _ _) k, _, _, rfl⟩

set_option maxHeartbeats 1600000 in
theorem listTextDec_some (v fi fe : Value) (bs r0 : List UInt8) (n : Int) (B g ge : Nat) (mx long : Int) (w : World) (h : Sl w B v bs) (hB : B ≤ w.heap.size) (hlen : bs.length ≤ 1000000000000)
    (hg : w.cell? ⟨g, 0, none⟩ = some fi) (hi' : IntDec w 0 mx fi) (hge : w.cell? ⟨ge, 0, none⟩ = some fe) (he' : TextDec w long fe) (hd : decI 0 mx bs = some (n, r0)) :
    Calls Try.prog 53 #[v, .pointer (some ⟨g, 0, none⟩), .pointer (some ⟨ge, 0, none⟩)] w (LEnd 9 sv w B (decN (decT long) n.toNat r0)) := by
  obtain ⟨g1, g2, rfl, c1, c2⟩ := hi'
  obtain ⟨gt, ft, rfl, d1, d2⟩ := he'
  obtain ⟨hbs, hn0, _, _, hn1⟩ := decI_canon hd
  have hrl : r0.length ≤ 1000000000000 := by rw [hbs, List.length_append] at hlen; omega
  obtain ⟨m, rfl⟩ : ∃ m : Nat, n = m := ⟨n.toNat, by omega⟩
  clear hbs hn0
  have HD := Lib.hid hd
  have H1 := Lib.hid d1
  have H2 := Lib.hid d2
  have HG := Lib.hid hge
  clear hd d1 d2 hge
  go_enter Try.func53, Try.ntmps53
  go_wp2_with fail
  refine (intDec_any v bs B g1 g2 0 mx _ h hlen c1 c2).mono ?_
  rintro e w1 ⟨he, k0, rfl⟩
  rw [HD.out] at he
  obtain ⟨y, v', rfl, rfl, hv'⟩ := he
  clear hg c1 c2 h
  go_wp2_with fail
  go_loopw [8, 10, 24] (fun vr vl vi wr => ∃ (k : Nat) (xs : List (List UInt8)) (r : List UInt8), k ≤ m ∧ vi = .int .i64 k ∧ Hid (decN (decT long) k r0 = some (xs, r)) ∧ Sl wr B vr r ∧ wr.ownsRow w.heap.size 9 1 vl xs.length (xs.map sv) ∧ Below w.heap.size w wr) (fun _ _ vi _ => m - (intOf vi).toNat)
  case atStart => exact ⟨0, [], r0, by omega, rfl, rfl, hv'.drewN k0, World.ownsRow_nil _ _ _ _, below_drewN (Below.refl _ _) k0⟩
  case round =>
    obtain ⟨k, xs, r, hk, rfl, HK, hsl, hown, hbel⟩ := hrel
    have hkl := decN_len (decT_len (mx := long)) k r0 r xs HK.out
    by_cases hkm : k < m
    · have cg := cell_grown HG.out (grown_of_below none hbel)
      have c1 := cell_grown H1.out (grown_of_below none hbel)
      have c2 := Lib.hid (H2.out.grown (grown_of_below none hbel))
      have hsz := hbel.size
      have hrr : r.length ≤ 1000000000000 := by omega
      have HX := Lib.hid hkl.2
      have hxl : xs.length ≤ 1000000000000 := by omega
      clear hkl
      go_wp2_with fail
      refine (textDec_at u8 ft r B gt long _ hsl hrr c1 c2.out).mono ?_
      rintro e w2 ⟨he, k2, rfl⟩
      cases ho : decT long r with
      | none =>
        rw [ho] at he
        obtain ⟨y, v2, rfl⟩ := he
        have hfail := decN_fail k m r0 r xs HK.out ho hkm
        have HQ := Lib.hid hfail
        clear hfail ho
        go_wp2
        go_ret3
        refine ⟨below_drewN hbel k2, ?_⟩
        simp only [Int.toNat_natCast]
        rw [HQ.out]
        exact ⟨_, _, rfl⟩
      | some p =>
        obtain ⟨x, r2⟩ := p
        rw [ho] at he
        obtain ⟨y, v2, rfl, rfl, hs2⟩ := he
        have HQ := Lib.hid (decN_snoc k r0 r r2 xs x HK.out ho)
        clear ho
        have hbase : w.heap.size ≤ ((wr.drewN k2).alloc (.cells #[.string (str x)] 9)).heap.size := by simp; omega
        go_wp2_with (at_builtin; refine append_cell _ rfl (.tmp 35) (.tmp 37) 39 rfl w.heap.size 9 (.string (str [])) 16 Try.underlying39 info_text rfl (by decide) u10 xs.length (xs.map sv) rfl (hown.alloc _) (sv x) rfl wr.heap.size rfl ?_ hxl ?_ ?_; exact cell_new _ _ _ _; exact hbase; intro vl' w3 hown3 hb3)
        have hb4 : Below w.heap.size wr w3 := ((below_drewN (Below.refl _ wr) k2).alloc hsz _).trans hb3
        clear hb3 hbase cg c1 c2
        go_roundw
        case rel => exact ⟨k + 1, xs ++ [x], r2, by omega, value_int (by omega), HQ, hs2.below (hb4.mono hB), by rw [List.length_append, List.map_append]; exact hown3, hbel.trans hb4⟩
        case measure => simp [intOf]; omega
    · have hkm' : k = m := by omega
      subst hkm'
      clear hkm
      go_wp2
      go_ret3
      refine ⟨hbel, ?_⟩
      simp only [Int.toNat_natCast]
      rw [HK.out]
      exact ⟨_, _, rfl, hown, hsl⟩

theorem listTextDec_any (v fv : Value) (bs : List UInt8) (B : Nat) (mx long : Int) (w : World) (h : Sl w B v bs) (hB : B ≤ w.heap.size) (hlen : bs.length ≤ 1000000000000) (hd : ListDec 53 (fun w => TextDec w long) w mx fv) :
    ∃ g ge, fv = .func (.func 53) #[] #[.pointer (some ⟨g, 0, none⟩), .pointer (some ⟨ge, 0, none⟩)] ∧
      Calls Try.prog 53 #[v, .pointer (some ⟨g, 0, none⟩), .pointer (some ⟨ge, 0, none⟩)] w (LEnd 9 sv w B (decList (decT long) mx bs)) := by
  obtain ⟨g, ge, fi, fe, e, hg, hi', hge, he⟩ := hd
  refine ⟨g, ge, e, ?_⟩
  unfold decList
  cases ho : decI 0 mx bs with
  | none => exact listTextDec_none v fi _ bs B g mx w h hlen hg hi' ho
  | some p => exact listTextDec_some v fi fe bs p.2 p.1 B g ge mx long w h hB hlen hg hi' hge he ho

end Go.Proofs.Ytefonoaffeahjaa
