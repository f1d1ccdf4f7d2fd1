/-
  The laws' own copies of a script: own and theirs.
  The closure keep of the program's script.
  The program's choose.
  A region within a round that draws its order, whose last operation waits for all others, and whose others only read or lay blocks.
-/
import Derived.Test.YtlloofmmblhnjaaPkAE
import Derived.Test.YtlloofmmblhnjaaPkAM
import Derived.Test.YtlloofmmblhnjaaPkAD
import Derived.Test.YtlloofmmblhnjaaEdNextW
import Derived.Sort.QuietTacIn
import Derived.RangeFuncCalls
import Derived.Test.YtlloofmmblhnjaaPkAG
namespace Go.Proofs.Ytlloofmmblhnjaa
open Go.RowKit

set_option maxRecDepth 20000 in
set_option maxHeartbeats 3200000 in
theorem own_any (A : Option Addr) (n c : Nat) (l : List OpI) (w : World) (h : SArr 2 ov w w.heap.size (.slice A n c) l) (hn : n ≤ 10000000) :
    Calls Try.prog 29 #[.slice A n c] w fun e w' => ∃ A c, e = .returned (.slice A n c) ∧ SArr 2 ov w' w'.heap.size (.slice A n c) l ∧ Below w.heap.size w w' := by
  have HL := Lib.hid h.len
  have HA := Lib.hid h
  clear h
  go_enter Try.func29, Try.ntmps29
  go_wp2
  go_loopw [3, 4] (fun s i wr => ∃ k : Nat, k ≤ n ∧ i = .int .i64 (k : Int) ∧ wr.ownsRow w.heap.size 50 2 s (l.take k).length ((l.take k).flatMap ov) ∧ Below w.heap.size w wr) (fun _ i _ => n - (intOf i).toNat)
  case atStart => exact ⟨0, by omega, rfl, by exact World.ownsRow_nil _ _ _ _, Below.refl _ _⟩
  case round =>
    obtain ⟨k, hk, rfl, hr, hb⟩ := hrel
    by_cases hlt : k < n
    · have t1 : decide ((k : Int) < (n : Int)) = true := decide_eq_true (by omega)
      have kz : (k : Int) < (n : Int) := by omega
      obtain ⟨x, hx⟩ : ∃ o, l[k]? = some o := ⟨_, List.getElem?_eq_getElem (by have := HL.out; omega)⟩
      obtain ⟨b0, o0, rfl, hB0, hc0⟩ := ops_cells HA.out (by omega)
      have d0 : wr.cell? ⟨b0, o0 + k * 2, none⟩ = some (.int .i64 x.1) := (hb.cell (p := ⟨b0, o0 + k * 2, none⟩) hB0).trans (hc0 k x hx).1
      have d1 : wr.cell? ⟨b0, o0 + k * 2 + 1, none⟩ = some (.int .i64 x.2) := (hb.cell (p := ⟨b0, o0 + k * 2 + 1, none⟩) hB0).trans (hc0 k x hx).2
      have hbs := hb.size
      have hnx := Lib.hid (take_next hx)
      have hLl : (l.take k).length ≤ 10000000 := by rw [List.length_take]; omega
      obtain ⟨L, hL⟩ : ∃ L, l.take k = L := ⟨_, rfl⟩
      rw [hL] at hr hnx hLl
      clear hx hc0 hL
      go_wp2_with (at_builtin; refine append_struct (val := ov) 35 50 (.agg #[.int .i64 0, .int .i64 0]) 16 Try.underlying35 info_op2 rfl (by decide) (by decide) ov_len ov_one wr rfl (.tmp 11) (.tmp 16) rfl w.heap.size u3 L rfl hr x #[.int .i64 x.1, .int .i64 x.2] rfl _ rfl rfl (by omega) hbs ?_; intro v' w' hown' hb2)
      go_wp2_with fail
      go_roundw
      case rel => exact ⟨k + 1, by omega, by go_num, by rw [hnx.out]; exact hown', hb.trans hb2⟩
      case measure => first | (simp [intOf]; done) | (simp [intOf]; omega)
    · have t1 : decide ((k : Int) < (n : Int)) = false := decide_eq_false (by omega)
      obtain rfl : k = n := by omega
      have hfull : l.take k = l := List.take_of_length_le (by have := HL.out; omega)
      rw [hfull] at hr
      clear hfull
      have hA := SArr.of_own ov_len hr
      go_wp2
      go_ret
      obtain ⟨A2, c2, rfl⟩ := hA.form
      have hl2 := HL.out
      rw [hl2] at hA ⊢
      exact ⟨A2, c2, rfl, hA, hb⟩

set_option maxRecDepth 20000 in
set_option maxHeartbeats 3200000 in
theorem theirs_any (A : Option Addr) (n c : Nat) (l : List OpI) (w : World) (h : SArr 2 ov w w.heap.size (.slice A n c) l) (hn : n ≤ 10000000) :
    Calls Try.prog 23 #[.slice A n c] w fun e w' => ∃ A c, e = .returned (.slice A n c) ∧ SArr 2 ov w' w'.heap.size (.slice A n c) l ∧ Below w.heap.size w w' := by
  have HL := Lib.hid h.len
  have HA := Lib.hid h
  clear h
  go_enter Try.func23, Try.ntmps23
  go_wp2
  go_loopw [3, 4] (fun s i wr => ∃ k : Nat, k ≤ n ∧ i = .int .i64 (k : Int) ∧ wr.ownsRow w.heap.size 61 2 s (l.take k).length ((l.take k).flatMap ov) ∧ Below w.heap.size w wr) (fun _ i _ => n - (intOf i).toNat)
  case atStart => exact ⟨0, by omega, rfl, by exact World.ownsRow_nil _ _ _ _, Below.refl _ _⟩
  case round =>
    obtain ⟨k, hk, rfl, hr, hb⟩ := hrel
    by_cases hlt : k < n
    · have t1 : decide ((k : Int) < (n : Int)) = true := decide_eq_true (by omega)
      have kz : (k : Int) < (n : Int) := by omega
      obtain ⟨x, hx⟩ : ∃ o, l[k]? = some o := ⟨_, List.getElem?_eq_getElem (by have := HL.out; omega)⟩
      obtain ⟨b0, o0, rfl, hB0, hc0⟩ := ops_cells HA.out (by omega)
      have d0 : wr.cell? ⟨b0, o0 + k * 2, none⟩ = some (.int .i64 x.1) := (hb.cell (p := ⟨b0, o0 + k * 2, none⟩) hB0).trans (hc0 k x hx).1
      have d1 : wr.cell? ⟨b0, o0 + k * 2 + 1, none⟩ = some (.int .i64 x.2) := (hb.cell (p := ⟨b0, o0 + k * 2 + 1, none⟩) hB0).trans (hc0 k x hx).2
      have hbs := hb.size
      have hnx := Lib.hid (take_next hx)
      have hLl : (l.take k).length ≤ 10000000 := by rw [List.length_take]; omega
      obtain ⟨L, hL⟩ : ∃ L, l.take k = L := ⟨_, rfl⟩
      rw [hL] at hr hnx hLl
      clear hx hc0 hL
      go_wp2_with (at_builtin; refine append_struct (val := ov) 33 61 (.agg #[.int .i64 0, .int .i64 0]) 16 Try.underlying33 info_op rfl (by decide) (by decide) ov_len ov_one wr rfl (.tmp 11) (.tmp 16) rfl w.heap.size u3 L rfl hr x #[.int .i64 x.1, .int .i64 x.2] rfl _ rfl rfl (by omega) hbs ?_; intro v' w' hown' hb2)
      go_wp2_with fail
      go_roundw
      case rel => exact ⟨k + 1, by omega, by go_num, by rw [hnx.out]; exact hown', hb.trans hb2⟩
      case measure => first | (simp [intOf]; done) | (simp [intOf]; omega)
    · have t1 : decide ((k : Int) < (n : Int)) = false := decide_eq_false (by omega)
      obtain rfl : k = n := by omega
      have hfull : l.take k = l := List.take_of_length_le (by have := HL.out; omega)
      rw [hfull] at hr
      clear hfull
      have hA := SArr.of_own ov_len hr
      go_wp2
      go_ret
      obtain ⟨A2, c2, rfl⟩ := hA.form
      have hl2 := HL.out
      rw [hl2] at hA ⊢
      exact ⟨A2, c2, rfl, hA, hb⟩

end Go.Proofs.Ytlloofmmblhnjaa

namespace Go.Proofs.Ytlloofmmblhnjaa
open Go.RowKit Go.Shelf Go.Lib

set_option maxRecDepth 20000 in
set_option maxHeartbeats 12800000 in
theorem keep_any {a b : List Int} {R : Nat} {T : Nat → Nat → Nat} {S : Nat → Nat → List OpI} (g : Grid a b R T S) (A A' : Option Addr) (n c m c' : Nat) (most : Int) (w : World) (s Bp Bl Bi Bj Bt Bk base : Nat) (pl : Places s Bp Bl Bi Bj Bt Bk base) (hs : w.heap.size = s)
    (h : Arr iv w w.heap.size (.slice A n c) a) (h' : Arr iv w w.heap.size (.slice A' m c') b) (hn : n ≤ 100000) (hm : m ≤ 100000)
    (i j : Nat) (O : List OpI) (v : Value) (W : World) (hSt : StI #[.slice A n c, .slice A' m c', .int .i64 (R : Int), .int .i64 most] w Bp Bl Bi Bj Bt Bk base i j O v W) (hi : i ≤ n) (hj : j ≤ m) (hO : S 0 0 = O ++ S i j) :
    Calls Try.prog 47 #[.pointer (some ⟨Bi, 0, none⟩), .pointer (some ⟨Bp, 0, none⟩), .pointer (some ⟨Bj, 0, none⟩), .pointer (some ⟨Bt, 0, none⟩)] W fun e W' =>
      (∃ u, e = .returned u) ∧ ∃ (i' j' : Nat) (O' : List OpI) (v' : Value), StI #[.slice A n c, .slice A' m c', .int .i64 (R : Int), .int .i64 most] w Bp Bl Bi Bj Bt Bk base i' j' O' v' W' ∧ Stp Bl Bi Bj v.ownBlock v'.ownBlock W W' ∧
        i' ≤ n ∧ j' ≤ m ∧ S 0 0 = O' ++ S i' j' ∧ T i' j' = T i j ∧ (j' : Int) - (i' : Int) = (j : Int) - (i : Int) ∧ ¬ ∃ x, a[i']? = some x ∧ b[j']? = some x := by
  have HLa := Lib.hid h.len
  have HLb := Lib.hid h'.len
  have HA := Lib.hid h
  have HB := Lib.hid h'
  have HSt0 := Lib.hid hSt
  have HO0 := Lib.hid hO
  have HPl := Lib.hid pl
  have Hs := Lib.hid hs
  have hlen0 := g.s_len
  have HLen := Lib.hid hlen0
  clear h h' hSt hO pl hs hlen0
  go_enter Try.func47, Try.ntmps47
  go_wp2
  go_loopw [4] (fun _ wr => ∃ (i' j' : Nat) (O' : List OpI) (v' : Value), i' ≤ n ∧ j' ≤ m ∧ Hid (StI #[.slice A n c, .slice A' m c', .int .i64 (R : Int), .int .i64 most] w Bp Bl Bi Bj Bt Bk base i' j' O' v' wr) ∧ Hid (Stp Bl Bi Bj v.ownBlock v'.ownBlock W wr) ∧ Hid (S 0 0 = O' ++ S i' j') ∧ Hid (T i' j' = T i j ∧ (j' : Int) - (i' : Int) = (j : Int) - (i : Int)))
    (fun _ wr => n - costAt (.pointer (some ⟨Bi, 0, none⟩)) wr)
  case atStart => exact ⟨i, j, O, v, hi, hj, HSt0, Lib.hid (Stp.refl _ _ _ _ _), HO0, Lib.hid ⟨rfl, rfl⟩⟩
  case round =>
    obtain ⟨p, q, O', v', hp, hq, HS, HR, HO, HT⟩ := hrel
    have hMe : costAt (.pointer (some ⟨Bi, 0, none⟩)) wr = p := by
      have := HS.out.i.cell
      simp [costAt, this, intOf]
    have e0 := HS.out.i.cell
    have e1 := HS.out.j.cell
    have e2 := HS.out.p.cell 0
    have e3 := HS.out.p.cell 1
    simp at e2 e3
    have hOl : O'.length ≤ 200000 := by
      have h1 := HLen.out
      rw [HO.out, List.length_append] at h1
      have := HLa.out
      have := HLb.out
      omega
    by_cases hpn : p < n
    · have zp : (p : Int) < (n : Int) := by omega
      have zp0 : (0 : Int) ≤ (p : Int) := by omega
      by_cases hqm : q < m
      · have zq : (q : Int) < (m : Int) := by omega
        have zq0 : (0 : Int) ≤ (q : Int) := by omega
        obtain ⟨x, hx⟩ := at_lt (l := a) (i := p) (by rw [HLa.out]; omega)
        obtain ⟨y, hy⟩ := at_lt (l := b) (i := q) (by rw [HLb.out]; omega)
        obtain ⟨ba, oa, rfl, hBa, hca⟩ := HA.out.some_ (by omega)
        obtain ⟨bb, ob, rfl, hBb, hcb⟩ := HB.out.some_ (by omega)
        have d3 : wr.cell? ⟨ba, oa + p, none⟩ = some (.int .i64 x) := (HS.out.bel.cell (p := ⟨ba, oa + p, none⟩) hBa).trans (hca p x hx)
        have d4 : wr.cell? ⟨bb, ob + q, none⟩ = some (.int .i64 y) := (HS.out.bel.cell (p := ⟨bb, ob + q, none⟩) hBb).trans (hcb q y hy)
        by_cases hxy : x = y
        · have t3 : (x == y) = true := eqE hxy
          have hst : StI _ w Bp Bl Bi Bj Bt Bk base p q O' v' (wr.drewN 0) := HS.out
          have HTk : Hid (∀ q0 : Nat, Calls Try.prog 46 #[.int .i64 1, .pointer (some ⟨Bp, 0, none⟩), .pointer (some ⟨Bj, 0, none⟩), .pointer (some ⟨Bi, 0, none⟩), .pointer (some ⟨Bl, 0, none⟩)] (wr.drewN q0) fun e W' =>
              (∃ u, e = .returned u) ∧ ∃ v2, StI #[.slice (some ⟨ba, oa, none⟩) n c, .slice (some ⟨bb, ob, none⟩) m c', .int .i64 (R : Int), .int .i64 most] w Bp Bl Bi Bj Bt Bk base (p + 1) (q + 1) (O' ++ [(1, 0)]) v2 W' ∧ Stp Bl Bi Bj v'.ownBlock v2.ownBlock (wr.drewN q0) W') := Lib.hid fun q0 =>
            take1_any (some ⟨ba, oa, none⟩) (some ⟨bb, ob, none⟩) n c m c' (R : Int) most b w s Bp Bl Bi Bj Bt Bk base HPl.out Hs.out HB.out p q O' v' (wr.drewN q0) (HS.out.below (below_drewN (Below.refl _ _) _)) (by omega) (by omega) (by omega)
          have HOn : Hid (S 0 0 = (O' ++ [(1, 0)]) ++ S (p + 1) (q + 1)) := Lib.hid (by
            rw [HO.out, g.s_keep p q x hx (by rw [hy, hxy])]
            simp)
          have HTn : Hid (T (p + 1) (q + 1) = T i j ∧ ((q + 1 : Nat) : Int) - ((p + 1 : Nat) : Int) = (j : Int) - (i : Int)) := Lib.hid ⟨by
            rw [← HT.out.1, g.same p q x hx (by rw [hy, hxy])], by have := HT.out.2; omega⟩
          have ct : wr.cell? ⟨Bt, 0, none⟩ = some (.func (.func 46) #[] #[.pointer (some ⟨Bp, 0, none⟩), .pointer (some ⟨Bj, 0, none⟩), .pointer (some ⟨Bi, 0, none⟩), .pointer (some ⟨Bl, 0, none⟩)]) := HS.out.t.cell
          have HMe := Lib.hid hMe
          clear hx hy hxy hca hcb hst hMe
          go_wp2_with fail
          go_quiet (fail)
          go_wp2_with fail
          refine (HTk.out _).mono ?_
          rintro e W3 ⟨⟨u, rfl⟩, v2, hSt3, hR3⟩
          have hMe3 : costAt (.pointer (some ⟨Bi, 0, none⟩)) W3 = p + 1 := by
            have := hSt3.i.cell
            simp [costAt, this, intOf]
          have HSt3 := Lib.hid hSt3
          have HR3 : Hid (Stp Bl Bi Bj v.ownBlock v2.ownBlock W W3) := Lib.hid (HR.out.next ((Stp.of_below (below_drewN (Below.refl _ _) _)).next hR3))
          have HMe3 := Lib.hid hMe3
          clear hSt3 hR3 hMe3
          go_wp2
          go_roundw
          case rel => exact ⟨p + 1, q + 1, _, v2, by omega, by omega, HSt3, HR3, HOn, HTn⟩
          case measure =>
            rw [HMe3.out, HMe.out]
            omega
        · have t3 : (x == y) = false := neE hxy
          have HNe : Hid (¬ ∃ x, a[p]? = some x ∧ b[q]? = some x) := Lib.hid (by
            rintro ⟨u, h1, h2⟩
            rw [hx] at h1
            rw [hy] at h2
            cases h1
            cases h2
            exact hxy rfl)
          clear hx hy hxy hca hcb hMe
          go_wp2_with fail
          go_quiet (fail)
          go_wp2
          go_end0
          exact ⟨⟨_, rfl⟩, p, q, O', v', HS.out.below (below_drewN (Below.refl _ _) _), HR.out.next (Stp.of_below (below_drewN (Below.refl _ _) _)), hp, hq, HO.out, HT.out.1, HT.out.2, HNe.out⟩
      · have t1 : decide ((q : Int) < (m : Int)) = false := decide_eq_false (by omega)
        have t1n : decide (q < m) = false := decide_eq_false hqm
        have HNe : Hid (¬ ∃ x, a[p]? = some x ∧ b[q]? = some x) := Lib.hid (by
          rintro ⟨u, h1, h2⟩
          have := lt_at h2
          have := HLb.out
          omega)
        clear hMe
        go_wp2_with fail
        go_quiet (fail)
        go_wp2
        go_end0
        exact ⟨⟨_, rfl⟩, p, q, O', v', HS.out.below (below_drewN (Below.refl _ _) _), HR.out.next (Stp.of_below (below_drewN (Below.refl _ _) _)), hp, hq, HO.out, HT.out.1, HT.out.2, HNe.out⟩
    · have t1 : decide ((p : Int) < (n : Int)) = false := decide_eq_false (by omega)
      have t1n : decide (p < n) = false := decide_eq_false hpn
      have HNe : Hid (¬ ∃ x, a[p]? = some x ∧ b[q]? = some x) := Lib.hid (by
        rintro ⟨u, h1, h2⟩
        have := lt_at h1
        have := HLa.out
        omega)
      clear hMe
      go_wp2_with fail
      go_quiet (fail)
      go_wp2
      go_end0
      exact ⟨⟨_, rfl⟩, p, q, O', v', HS.out.below (below_drewN (Below.refl _ _) _), HR.out.next (Stp.of_below (below_drewN (Below.refl _ _) _)), hp, hq, HO.out, HT.out.1, HT.out.2, HNe.out⟩

end Go.Proofs.Ytlloofmmblhnjaa

namespace Go.Proofs.Ytlloofmmblhnjaa
open Go.RowKit

set_option maxRecDepth 20000 in
set_option maxHeartbeats 12800000 in
theorem choose_any {a b : List Int} {R : Nat} {T : Nat → Nat → Nat} {S : Nat → Nat → List OpI} (g : Grid a b R T S) (A A' : Option Addr) (n c m c' : Nat) (most : Int) (k0 B0 : Nat) (i j : Nat) (W : World) (hB0 : RowB W B0 (rowL a b T most k0))
    (ha : a.length ≤ 100000) (hb : b.length ≤ 100000) (hmost : most ≤ 400000) (hk0 : (k0 : Int) + 1 ≤ most) (hi : i ≤ 100000) (hj : j ≤ 100000) (h1 : (j : Int) - (i : Int) + 1 ≤ most - (k0 : Int)) (h2 : -(most - (k0 : Int)) ≤ (j : Int) - (i : Int) - 1) (rc : Array Value) (hrc : rc = #[.int .i64 (k0 : Int), .int .i64 (rowLo a b most k0), .slice (some ⟨B0, 0, none⟩) (rowN a b most k0) (rowN a b most k0)]) :
    Calls Try.prog 49 #[.agg #[.slice A n c, .slice A' m c', .int .i64 (R : Int), .int .i64 most], .agg rc, .int .i64 (i : Int), .int .i64 (j : Int)] W fun e W' =>
      e = .returned (.int .i64 (chooseE a b R T (k0 : Int) i j)) ∧ Below W.heap.size W W' := by
  have hat : ∀ (z : Int), -(most - (k0 : Int)) ≤ z → z ≤ most - (k0 : Int) → ∀ V, Below W.heap.size W V → Calls Try.prog 43 #[.agg #[.int .i64 (k0 : Int), .int .i64 (rowLo a b most k0), .slice (some ⟨B0, 0, none⟩) (rowN a b most k0) (rowN a b most k0)], .int .i64 z] V fun e w' => e = .returned (.int .i64 (plc a b T k0 z)) ∧ Below V.heap.size V w' := fun z z1 z2 V hV => by
    have := at_any (k0 : Int) (rowLo a b most k0) z (some ⟨B0, 0, none⟩) (rowN a b most k0) (rowN a b most k0) (rowL a b T most k0) V ((hB0.arr' (rowL_len _ _ _ _ _)).up hV) (by unfold rowN rowLo; omega) (by unfold rowLo enZ; omega) (by omega)
    rwa [rowAt_val z1 z2] at this
  obtain ⟨d, hd⟩ : ∃ d : Int, (j : Int) - (i : Int) = d := ⟨_, rfl⟩
  obtain ⟨d1, hd1⟩ : ∃ x : Int, d - 1 = x := ⟨_, rfl⟩
  obtain ⟨i1, hi1⟩ : ∃ x : Nat, i + 1 = x := ⟨_, rfl⟩
  have ei : (i : Int) + 1 = (i1 : Int) := by omega
  have hch : chooseE a b R T (k0 : Int) i j = if 0 < R ∧ plc a b T k0 d ≤ (i1 : Int) then 2 else if plc a b T k0 d1 ≤ (i1 : Int) then 3 else 4 := by
    unfold chooseE
    rw [hd, hd1, ei]
  obtain ⟨p, hp⟩ : ∃ p, plc a b T k0 d = p := ⟨_, rfl⟩
  obtain ⟨p1, hp1⟩ : ∃ p, plc a b T k0 d1 = p := ⟨_, rfl⟩
  have H0 := hat d (by omega) (by omega)
  have H1 := hat d1 (by omega) (by omega)
  rw [hp] at H0
  rw [hp1] at H1
  rw [hp, hp1] at hch
  obtain ⟨lo, hlo⟩ : ∃ lo, rowLo a b most k0 = lo := ⟨_, rfl⟩
  obtain ⟨L, hL⟩ : ∃ L, rowN a b most k0 = L := ⟨_, rfl⟩
  rw [hlo, hL] at hrc H0 H1
  subst hrc
  have HC0 := Lib.hid H0
  have HC1 := Lib.hid H1
  have HCh := Lib.hid hch
  have wd : IntKind.i64.wrap d = d := wraps_i64 _ (by omega) (by omega)
  have wd1 : IntKind.i64.wrap d1 = d1 := wraps_i64 _ (by omega) (by omega)
  have wi1 : IntKind.i64.wrap (i1 : Int) = (i1 : Int) := wraps_i64 _ (by omega) (by omega)
  have hr := g.r
  have q2 : Below W.heap.size W ((W.alloc (.cells #[.slice A n c, .slice A' m c', .int .i64 (R : Int), .int .i64 most] 52)).alloc (.cells #[.int .i64 (k0 : Int), .int .i64 lo, .slice (some ⟨B0, 0, none⟩) L L] 57)) :=
    ((Below.refl _ W).alloc (Nat.le_refl _) _).alloc (by simp) _
  have hbp := (Box.made W 52 #[.slice A n c, .slice A' m c', .int .i64 (R : Int), .int .i64 most]).alloc (.cells #[.int .i64 (k0 : Int), .int .i64 lo, .slice (some ⟨B0, 0, none⟩) L L] 57)
  have hbl := Box.made (W.alloc (.cells #[.slice A n c, .slice A' m c', .int .i64 (R : Int), .int .i64 most] 52)) 57 #[.int .i64 (k0 : Int), .int .i64 lo, .slice (some ⟨B0, 0, none⟩) L L]
  simp only [World.size_alloc] at hbl
  clear hat hi1 hch hp hp1 H0 H1 hlo hL hB0 ha hb h1 h2
  rcases hr with hr | hr
  · subst hr
    have c2 := hbp.cell 2
    have r0 := hbl.cell 0
    have r1 := hbl.cell 1
    have r2 := hbl.cell 2
    simp at c2 r0 r1 r2
    have hif : (if 0 < 0 ∧ p ≤ (i1 : Int) then (2 : Int) else if p1 ≤ (i1 : Int) then 3 else 4) = if p1 ≤ (i1 : Int) then 3 else 4 := if_neg (by omega)
    rw [hif] at HCh
    by_cases h3 : p1 ≤ (i1 : Int)
    · rw [if_pos h3] at HCh
      clear hif hbp hbl
      go_enter Try.func49, Try.ntmps49
      go_wp2_with fail
      refine (HC1.out _ q2).mono ?_
      rintro e w1 ⟨rfl, k1⟩
      go_wp2
      go_ret
      exact ⟨ret_int HCh.out.symm, q2.trans (k1.mono q2.size)⟩
    · rw [if_neg h3] at HCh
      clear hif hbp hbl
      go_enter Try.func49, Try.ntmps49
      go_wp2_with fail
      refine (HC1.out _ q2).mono ?_
      rintro e w1 ⟨rfl, k1⟩
      go_wp2
      go_ret
      exact ⟨ret_int HCh.out.symm, q2.trans (k1.mono q2.size)⟩
  · subst hr
    have c2 := hbp.cell 2
    have r0 := hbl.cell 0
    have r1 := hbl.cell 1
    have r2 := hbl.cell 2
    simp at c2 r0 r1 r2
    by_cases h3 : p ≤ (i1 : Int)
    · rw [if_pos ⟨by omega, h3⟩] at HCh
      clear hbp hbl
      go_enter Try.func49, Try.ntmps49
      go_wp2_with fail
      refine (HC0.out _ q2).mono ?_
      rintro e w1 ⟨rfl, k1⟩
      go_wp2
      go_ret
      exact ⟨ret_int HCh.out.symm, q2.trans (k1.mono q2.size)⟩
    · rw [if_neg (fun h => h3 h.2)] at HCh
      have t3 : decide (p ≤ (i1 : Int)) = false := decide_eq_false h3
      by_cases h4 : p1 ≤ (i1 : Int)
      · rw [if_pos h4] at HCh
        go_enter Try.func49, Try.ntmps49
        go_wp2_with fail
        refine (HC0.out _ q2).mono ?_
        rintro e w1 ⟨rfl, k1⟩
        have hbl1 := Box.below hbl k1 hbl.lt
        have s0 := hbl1.cell 0
        have s1 := hbl1.cell 1
        have s2 := hbl1.cell 2
        simp at s0 s1 s2
        have q3 := q2.trans (k1.mono q2.size)
        clear hbl1 r0 r1 r2 c2 hbl hbp
        go_wp2_with fail
        refine (HC1.out _ q3).mono ?_
        rintro e w2 ⟨rfl, k2⟩
        go_wp2
        go_ret
        exact ⟨ret_int HCh.out.symm, q3.trans (k2.mono q3.size)⟩
      · rw [if_neg h4] at HCh
        go_enter Try.func49, Try.ntmps49
        go_wp2_with fail
        refine (HC0.out _ q2).mono ?_
        rintro e w1 ⟨rfl, k1⟩
        have hbl1 := Box.below hbl k1 hbl.lt
        have s0 := hbl1.cell 0
        have s1 := hbl1.cell 1
        have s2 := hbl1.cell 2
        simp at s0 s1 s2
        have q3 := q2.trans (k1.mono q2.size)
        clear hbl1 r0 r1 r2 c2 hbl hbp
        go_wp2_with fail
        refine (HC1.out _ q3).mono ?_
        rintro e w2 ⟨rfl, k2⟩
        go_wp2
        go_ret
        exact ⟨ret_int HCh.out.symm, q3.trans (k2.mono q3.size)⟩

end Go.Proofs.Ytlloofmmblhnjaa

namespace Go.Proofs.Ytlloofmmblhnjaa
open Go.RowKit

section
variable {F : Fence} {n : Nat} {P : Program} {C : World → Prop}

/-- What stands in the place of the last operation while the others are walked. -/
def idle (o : Oper) : Oper := { dst := none, op := .move (.const (.bool false)), type := 0, pos := "", after := o.after, guard := none }
theorem quiet_end {ops : Array Oper} {Q : Act → Prop} {d : Oper} (h : ∀ a, Q a → wpQuietIn F n P ops C Q [d] a) : ∀ (l : List Oper) (a : Act), wpQuietIn F n P ops C Q l a → wpQuietIn F n P ops C Q (l ++ [d]) a
  | [], a, hq => h a hq
  | o :: l, a, hq => by
    obtain ⟨h1, h2⟩ := hq
    refine ⟨h1, ?_⟩
    split
    · rename_i hw
      rw [if_pos hw] at h2
      exact Oper.quietIn_mono (fun a' ha' => quiet_end h l a' ha') h2
    · rename_i hw
      rw [if_neg hw] at h2
      exact quiet_end h l _ h2
theorem idle_quiet {ops : Array Oper} {Q : Act → Prop} (o : Oper) (a : Act) (h : Q a) : wpQuietIn F n P ops C Q [idle o] a := by
  refine ⟨fun w _ f hf => ?_, ?_⟩
  · simp [idle, Oper.about] at hf
  · have hw : Region.wanted (idle o) (yielded ops a.tmps) = true := rfl
    rw [if_pos hw]
    refine ⟨.bool false, fun w _ => ?_, ?_⟩
    · simp [Oper.quietAtIn, idle, execOp, Oper.quietUponIn, go_sem, Act.eval]
    · exact h

/-- An order in which the last operation comes last, whichever way the others go. -/
def tailOk (ops ops' : Array Oper) (N : Nat) : Nat → Array Bool → Bool
  | 0, _ => false
  | f + 1, listed => (Region.ready .any ops listed == Region.ready .any ops' listed) && !(Region.ready .any ops listed).isEmpty &&
      (Region.ready .any ops listed).all fun i => if i = N then (Region.ready .any ops (listed.setIfInBounds i true)).isEmpty && (Region.ready .any ops' (listed.setIfInBounds i true)).isEmpty else tailOk ops ops' N f (listed.setIfInBounds i true)

theorem wpIn_of_quietR {o : Oper} {a : Act} {K : Act → Prop} {K' : Act → World → Prop} {Q' : Exit → Act → World → Prop} {w : World} (hnd : ∀ c, o.op ≠ .defer c) (hw : C w) (h : ∀ a w', C w' → K a → K' a w')
    (ha : o.askedIn F P a C) (hh : o.quietIn F n P a C K) : o.wpIn F n P a w K' Q' := by
  obtain ⟨v, h1, h2⟩ := hh
  have h3 := h1 w hw
  unfold Oper.quietAtIn at h3
  unfold Oper.wpIn
  refine ⟨ha w hw, ?_⟩
  rw [Oper.semAt_eq _ _ _ hnd]
  generalize (execOp a.eval o).run P w = r at *
  cases r with
  | ok x w' =>
    cases x <;> simp only [Oper.quietUponIn] at h3 <;> simp only [Oper.uponIn]
    case value u => rw [h3.1, h3.2]; exact h _ _ hw h2
    case skip => rw [h3.1, ← h3.2]; exact h _ _ hw h2
    case enter f args =>
      obtain ⟨e1, hd, hc⟩ := h3
      rw [e1]
      exact ⟨hd, hc.mono fun e w'' ⟨he, hw''⟩ => by subst he; exact h _ _ hw'' h2⟩
  | halt x w' => simp only [Oper.quietUponIn] at h3

theorem any_of_tail {ops ops' : Array Oper} {N : Nat} {Q : Exit → Act → World → Prop} (hsame : ∀ i, i ≠ N → ops'[i]? = ops[i]?) (hg : ∀ (i : Nat) (o : Oper), ops[i]? = some o → o.guard = none ∧ ∀ c, o.op ≠ .defer c) {o : Oper} (hN : ops'[N]? = some (idle o)) :
    ∀ (f : Nat) (listed : Array Bool) (a : Act) (w : World), C w → tailOk ops ops' N f listed = true →
      wpAnyQIn F n P .any ops' C (fun a' => ∀ w', C w' → wpOpIn F n P ops Q N (fun a2 w2 => Q .normal a2 w2) a' w') f listed a → wpAnyIn F n P .any ops Q f listed a w
  | 0, _, _, _, _, ht, _ => by simp [tailOk] at ht
  | f + 1, listed, a, w, hw, ht, h => by
    unfold tailOk at ht
    simp only [Bool.and_eq_true, Bool.not_eq_true', beq_iff_eq] at ht
    obtain ⟨⟨ht1, ht2⟩, ht3⟩ := ht
    refine ⟨fun e => by rw [e] at ht2; simp at ht2, fun i hi => ?_⟩
    have ht4 := List.all_eq_true.1 ht3 i hi
    have hq := h.2 i (by rw [← ht1]; exact hi)
    by_cases hiN : i = N
    · subst hiN
      rw [if_pos rfl, Bool.and_eq_true, List.isEmpty_iff, List.isEmpty_iff] at ht4
      unfold qOpIn at hq
      rw [hN] at hq
      dsimp only at hq
      have hq2 := hq.2
      rw [if_pos (by rfl)] at hq2
      obtain ⟨v, _, hv⟩ := hq2
      have hfin : ∀ w', C w' → wpOpIn F n P ops Q i (fun a2 w2 => Q .normal a2 w2) a w' := by
        have ha : a.put (idle o).dst v = a := rfl
        rw [ha] at hv
        cases f with
        | zero => exact hv.2
        | succ f => exact hv.1 ht4.2
      refine wpOpIn_mono (fun a2 w2 h2 => ?_) (hfin w hw)
      cases f with
      | zero => exact ⟨ht4.1, h2⟩
      | succ f => exact ⟨fun _ => h2, fun j hj => by rw [ht4.1] at hj; cases hj⟩
    · rw [if_neg hiN] at ht4
      have hK : ∀ a' w', C w' → wpAnyQIn F n P .any ops' C (fun a' => ∀ w', C w' → wpOpIn F n P ops Q N (fun a2 w2 => Q .normal a2 w2) a' w') f (listed.setIfInBounds i true) a' → wpAnyIn F n P .any ops Q f (listed.setIfInBounds i true) a' w' :=
        fun a' w' hw' h' => any_of_tail hsame hg hN f _ a' w' hw' ht4 h'
      unfold qOpIn at hq
      rw [hsame i hiN] at hq
      unfold wpOpIn
      split
      · rename_i ho
        rw [ho] at hq
        exact hK _ _ hw hq
      · rename_i oi ho
        rw [ho] at hq
        dsimp only at hq
        obtain ⟨g1, g2⟩ := hg i oi ho
        have hwt : ∀ y, Region.wanted oi y = true := fun y => by unfold Region.wanted; rw [g1]
        rw [if_pos (hwt _)] at hq ⊢
        exact wpIn_of_quietR g2 hw hK hq.1 hq.2

theorem wpIn_region_tail {id : Nat} {Q : Exit → Act → World → Prop} {a : Act} {w : World} {l : List Oper} {o : Oper} (N : Nat) (hm : P.follows .mixedOrders = true)
    (hB : Region.lexB .any (l.take N ++ [idle o]).toArray = true) (hl : l = l.take N ++ [o]) (hN : (l.take N).length = N)
    (hg : ∀ x ∈ l, x.guard = none ∧ ∀ c, x.op ≠ .defer c) (ht : tailOk l.toArray (l.take N ++ [idle o]).toArray N l.length (Array.replicate l.length false) = true) (hC : C { w with drawn := w.drawn + 1 })
    (h : wpQuietIn F n P (l.take N ++ [idle o]).toArray C (fun a' => ∀ w', C w' → wpOpIn F n P l.toArray Q N (fun a2 w2 => Q .normal a2 w2) a' w') (l.take N) a) : (Code.region id l.toArray true).wpIn F n P Q a w := by
  simp only [Region.lexB, Bool.and_eq_true] at hB
  have hlen : (l.take N ++ [idle o]).length = l.length := by
    have := congrArg List.length hl
    simp only [List.length_append, List.length_singleton] at this ⊢
    exact this.symm
  have h1 := wpAnyQIn_lex (F := F) (n := n) (P := P) (C := C) (md := .any) hB.1 (l.take N ++ [idle o]) 0 (Array.replicate (l.take N ++ [idle o]).toArray.size false) a (by simp) (by simpa using hB.2)
    (quiet_end (fun a' ha' => idle_quiet o a' ha') (l.take N) a h)
  refine wpIn_region_any hm ?_
  have hsz : l.toArray.size = l.length := rfl
  have hsz2 : (l.take N ++ [idle o]).toArray.size = l.length := hlen
  rw [hsz2, hlen] at h1
  rw [hsz]
  refine any_of_tail (N := N) (o := o) (fun i hi => ?_) (fun i x hx => hg x (by simpa using List.mem_of_getElem? (by simpa using hx))) ?_ _ _ _ _ hC ht h1
  · rw [List.getElem?_toArray, List.getElem?_toArray]
    by_cases hiN : i < N
    · rw [List.getElem?_append_left (by omega)]
      conv => rhs; rw [hl]
      rw [List.getElem?_append_left (by omega)]
    · have h3 : l.length = N + 1 := by rw [← hlen]; simp only [List.length_append, List.length_singleton]; omega
      rw [List.getElem?_eq_none (by omega), List.getElem?_eq_none (by omega)]
  · rw [List.getElem?_toArray, List.getElem?_append_right (by omega), hN]
    simp
end

end Go.Proofs.Ytlloofmmblhnjaa
