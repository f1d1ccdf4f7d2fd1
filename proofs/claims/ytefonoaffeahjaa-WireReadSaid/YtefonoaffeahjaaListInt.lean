/-
  The contract of the decoder of a list of integers.
-/
import Derived.Test.YtefonoaffeahjaaListDec
namespace Go.Proofs.Ytefonoaffeahjaa
open Go.RowKit

set_option maxHeartbeats 800000 in
theorem listIntDec_none (v fi : Value) (p2 : Value) (bs : List UInt8) (B g : Nat) (mx : Int) (w : World) (h : Sl w B v bs) (hlen : bs.length ≤ 1000000000000)
    (hg : w.cell? ⟨g, 0, none⟩ = some fi) (hi : IntDec w 0 mx fi) (hd : decI 0 mx bs = none) :
    Calls Try.prog 49 #[v, .pointer (some ⟨g, 0, none⟩), p2] w (LEnd 3 iv w B none) := by
  obtain ⟨g1, g2, rfl, c1, c2⟩ := hi
  go_enter Try.func49, Try.ntmps49
  go_wp2_with fail
  refine (intDec_any v bs B g1 g2 0 mx _ h hlen c1 c2).mono ?_
  rintro e w1 ⟨he, k, rfl⟩
  rw [hd] at he
  obtain ⟨y, v', rfl⟩ := he
  go_wp2
  go_ret3
  exact ⟨below_drewN (Below.refl _ _) k, _, _, rfl⟩

set_option maxHeartbeats 1600000 in
theorem listIntDec_some (v fi fe : Value) (bs r0 : List UInt8) (n : Int) (B g ge : Nat) (mx lo hi : Int) (w : World) (h : Sl w B v bs) (hB : B ≤ w.heap.size) (hlen : bs.length ≤ 1000000000000)
    (hg : w.cell? ⟨g, 0, none⟩ = some fi) (hi' : IntDec w 0 mx fi) (hge : w.cell? ⟨ge, 0, none⟩ = some fe) (he' : IntDec w lo hi fe) (hd : decI 0 mx bs = some (n, r0)) :
    Calls Try.prog 49 #[v, .pointer (some ⟨g, 0, none⟩), .pointer (some ⟨ge, 0, none⟩)] w (LEnd 3 iv w B (decN (decI lo hi) n.toNat r0)) := by
  obtain ⟨g1, g2, rfl, c1, c2⟩ := hi'
  obtain ⟨e1, e2, rfl, d1, d2⟩ := he'
  obtain ⟨hbs, hn0, _, _, hn1⟩ := decI_canon hd
  have hrl : r0.length ≤ 1000000000000 := by rw [hbs, List.length_append] at hlen; omega
  obtain ⟨m, rfl⟩ : ∃ m : Nat, n = m := ⟨n.toNat, by omega⟩
  clear hbs hn0
  have HD := Lib.hid hd
  have H1 := Lib.hid d1
  have H2 := Lib.hid d2
  have HG := Lib.hid hge
  clear hd d1 d2 hge
  go_enter Try.func49, Try.ntmps49
  go_wp2_with fail
  refine (intDec_any v bs B g1 g2 0 mx _ h hlen c1 c2).mono ?_
  rintro e w1 ⟨he, k0, rfl⟩
  rw [HD.out] at he
  obtain ⟨y, v', rfl, rfl, hv'⟩ := he
  clear hg c1 c2 h
  go_wp2_with fail
  go_loopw [8, 10, 24] (fun vr vl vi wr => ∃ (k : Nat) (xs : List Int) (r : List UInt8), k ≤ m ∧ vi = .int .i64 k ∧ Hid (decN (decI lo hi) k r0 = some (xs, r)) ∧ Sl wr B vr r ∧ wr.ownsRow w.heap.size 3 1 vl xs.length (xs.map iv) ∧ Below w.heap.size w wr) (fun _ _ vi _ => m - (intOf vi).toNat)
  case atStart => exact ⟨0, [], r0, by omega, rfl, rfl, hv'.drewN k0, World.ownsRow_nil _ _ _ _, below_drewN (Below.refl _ _) k0⟩
  case round =>
    obtain ⟨k, xs, r, hk, rfl, HK, hsl, hown, hbel⟩ := hrel
    have hkl := decN_len (decI_len (lo := lo) (hi := hi)) k r0 r xs HK.out
    by_cases hkm : k < m
    · have cg := cell_grown HG.out (grown_of_below none hbel)
      have c1 := cell_grown H1.out (grown_of_below none hbel)
      have c2 := cell_grown H2.out (grown_of_below none hbel)
      have hsz := hbel.size
      have hrr : r.length ≤ 1000000000000 := by omega
      have HX := Lib.hid hkl.2
      have hxl : xs.length ≤ 1000000000000 := by omega
      clear hkl
      go_wp2_with fail
      refine (intDec_any u8 r B e1 e2 lo hi _ hsl hrr c1 c2).mono ?_
      rintro e w2 ⟨he, k2, rfl⟩
      cases ho : decI lo hi r with
      | none =>
        rw [ho] at he
        obtain ⟨y, v2, rfl⟩ := he
        have hfail := decN_fail k m r0 r xs HK.out ho hkm
        have HQ := Lib.hid hfail
        clear hfail ho
        go_wp2
        go_ret3
        refine ⟨below_drewN hbel k2, ?_⟩
        simp only [Int.toNat_natCast]
        rw [HQ.out]
        exact ⟨_, _, rfl⟩
      | some p =>
        obtain ⟨x, r2⟩ := p
        rw [ho] at he
        obtain ⟨y, v2, rfl, rfl, hs2⟩ := he
        have HQ := Lib.hid (decN_snoc k r0 r r2 xs x HK.out ho)
        clear ho
        have hbase : w.heap.size ≤ ((wr.drewN k2).alloc (.cells #[.int .i64 x] 3)).heap.size := by simp; omega
        go_wp2_with (at_builtin; refine append_cell _ rfl (.tmp 35) (.tmp 37) 38 rfl w.heap.size 3 (.int .i64 0) 8 Try.underlying38 info_int rfl (by decide) u10 xs.length (xs.map iv) rfl (hown.alloc _) (iv x) rfl wr.heap.size rfl ?_ hxl ?_ ?_; exact cell_new _ _ _ _; exact hbase; intro vl' w3 hown3 hb3)
        have hb4 : Below w.heap.size wr w3 := ((below_drewN (Below.refl _ wr) k2).alloc hsz _).trans hb3
        clear hb3 hbase cg c1 c2
        go_roundw
        case rel => exact ⟨k + 1, xs ++ [x], r2, by omega, value_int (by omega), HQ, hs2.below (hb4.mono hB), by rw [List.length_append, List.map_append]; exact hown3, hbel.trans hb4⟩
        case measure => simp [intOf]; omega
    · have hkm' : k = m := by omega
      subst hkm'
      clear hkm
      go_wp2
      go_ret3
      refine ⟨hbel, ?_⟩
      simp only [Int.toNat_natCast]
      rw [HK.out]
      exact ⟨_, _, rfl, hown, hsl⟩

theorem listIntDec_any (v fv : Value) (bs : List UInt8) (B : Nat) (mx lo hi : Int) (w : World) (h : Sl w B v bs) (hB : B ≤ w.heap.size) (hlen : bs.length ≤ 1000000000000) (hd : ListDec 49 (fun w => IntDec w lo hi) w mx fv) :
    ∃ g ge, fv = .func (.func 49) #[] #[.pointer (some ⟨g, 0, none⟩), .pointer (some ⟨ge, 0, none⟩)] ∧
      Calls Try.prog 49 #[v, .pointer (some ⟨g, 0, none⟩), .pointer (some ⟨ge, 0, none⟩)] w (LEnd 3 iv w B (decList (decI lo hi) mx bs)) := by
  obtain ⟨g, ge, fi, fe, e, hg, hi', hge, he⟩ := hd
  refine ⟨g, ge, e, ?_⟩
  unfold decList
  cases ho : decI 0 mx bs with
  | none => exact listIntDec_none v fi _ bs B g mx w h hlen hg hi' ho
  | some p => exact listIntDec_some v fi fe bs p.2 p.1 B g ge mx lo hi w h hB hlen hg hi' hge he ho

end Go.Proofs.Ytefonoaffeahjaa
