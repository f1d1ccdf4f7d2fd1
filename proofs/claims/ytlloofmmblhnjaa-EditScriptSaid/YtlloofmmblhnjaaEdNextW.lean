/-
  The program's next row: the walk.
-/
import Derived.Test.YtlloofmmblhnjaaPkAG
namespace Go.Proofs.Ytlloofmmblhnjaa
open Go.RowKit

theorem grown_set (W : World) (g t : Nat) (v : Value) : W.grownBy (W.setCell ⟨g, t, none⟩ v) (some g) := by
  have h := (Below.refl 0 W).setCell (p := ⟨g, t, none⟩) (Nat.zero_le _) v
  exact ⟨h.os, h.tape, h.output, h.size, fun i _ hi => Below.heap_setCell _ _ _ _ (fun e => hi (by rw [e]))⟩
theorem below_of_row {w a b : World} {g : Nat} (h : Below w.heap.size w a) (k : a.grownBy b (some g)) (hg : w.heap.size ≤ g) : Below w.heap.size w b := below_grown h k (Nat.le_refl _) fun x e => by cases e; exact hg

set_option maxRecDepth 20000 in
set_option maxHeartbeats 12800000 in
theorem next_any {a b : List Int} {R : Nat} {T : Nat → Nat → Nat} {S : Nat → Nat → List OpI} (g : Grid a b R T S) (A A' : Option Addr) (n c m c' : Nat) (most : Int) (k0 : Nat) (B0 : Nat) (w : World) (h : Arr iv w w.heap.size (.slice A n c) a) (h' : Arr iv w w.heap.size (.slice A' m c') b)
    (hn : n ≤ 100000) (hm : m ≤ 100000) (hmost : most ≤ 400000) (hen : dz (enZ a b) ≤ most) (hk : (k0 : Int) + 1 ≤ most) (hB0 : RowB w B0 (rowL a b T most k0)) :
    Calls Try.prog 44 #[.agg #[.slice A n c, .slice A' m c', .int .i64 (R : Int), .int .i64 most], .agg #[.int .i64 (k0 : Int), .int .i64 (rowLo a b most k0), .slice (some ⟨B0, 0, none⟩) (rowN a b most k0) (rowN a b most k0)]] w fun e w' =>
      ∃ B : Nat, e = .returned (.agg #[.int .i64 ((k0 + 1 : Nat) : Int), .int .i64 (rowLo a b most ((k0 + 1 : Nat) : Int)), .slice (some ⟨B, 0, none⟩) (rowN a b most ((k0 + 1 : Nat) : Int)) (rowN a b most ((k0 + 1 : Nat) : Int))]) ∧ w.heap.size ≤ B ∧ RowB w' B (rowL a b T most ((k0 + 1 : Nat) : Int)) ∧ Below w.heap.size w w' := by
  have hla := h.len
  have hlb := h'.len
  -- the numbers of the row ahead
  obtain ⟨lo, hlo⟩ : ∃ lo, rowLo a b most k0 = lo := ⟨_, rfl⟩
  obtain ⟨L, hL⟩ : ∃ L, rowN a b most k0 = L := ⟨_, rfl⟩
  obtain ⟨vs, hvs⟩ : ∃ vs, rowL a b T most k0 = vs := ⟨_, rfl⟩
  have hvl : vs.length = L := by rw [← hvs, rowL_len, hL]
  -- and of the next one
  obtain ⟨k1, hk1⟩ : ∃ k1, k0 + 1 = k1 := ⟨_, rfl⟩
  have hk1z : ((k0 : Int)) + 1 = (k1 : Int) := by omega
  obtain ⟨e, he⟩ : ∃ e, enZ a b = e := ⟨_, rfl⟩
  have hez : (m : Int) - (n : Int) = e := by rw [← he]; unfold enZ; omega
  obtain ⟨hpos, hL1p⟩ := rowN_pos (a := a) (b := b) (c := (k1 : Int)) (most := most) (by omega) (by omega) hen
  have hNP : Hid (∀ t d : Int, 0 ≤ t → t < (rowN a b most (k1 : Int) : Int) → rowLo a b most (k1 : Int) + t = d → ∀ p0 p1 p2 M : Int, rowAt vs lo d = p0 → rowAt vs lo (d - 1) = p1 → rowAt vs lo (d + 1) = p2 →
      M = max (max (min (min (p0 - (R : Int)) (p1 - 1)) p2) 0) (-d) →
      ∃ i : Nat, M = (i : Int) ∧ i ≤ 700000 ∧ ((i : Int) ≤ (n : Int) ∨ (i : Int) + d ≤ 0) ∧ ((i : Int) + d ≤ (m : Int) ∨ i = 0) ∧ 0 ≤ (i : Int) + d ∧ -500000 ≤ d ∧ d ≤ 500000 ∧ -500000 ≤ lo ∧ lo ≤ 500000 ∧
      (0 ≤ p0 ∧ p0 ≤ never) ∧ (0 ≤ p1 ∧ p1 ≤ never) ∧ (0 ≤ p2 ∧ p2 ≤ never) ∧ (rowL a b T most (k1 : Int))[t.toNat]? = some (extE a b d i : Int)) := Lib.hid (by
    intro t d ht0 ht hd p0 p1 p2 M e0 e1 e2 hM
    have := next_place g (most := most) (c := (k0 : Int)) (d := d) (by omega) hk hmost (by omega) (by omega) (t := t.toNat) (by rw [hk1z]; omega) (by rw [hk1z]; omega) (by rw [hvs, hlo]; exact e0) (by rw [hvs, hlo]; exact e1) (by rw [hvs, hlo]; exact e2) hM
    rw [hlo, hla, hlb, hk1z] at this
    exact this)
  rw [hk1, hlo, hL]
  rw [hvs] at hB0
  have hRb := g.r
  have hlo1 : max (e - (k1 : Int)) ((k1 : Int) - most) = rowLo a b most (k1 : Int) := by rw [← he]; rfl
  have hpos' : min (e + (k1 : Int)) (most - (k1 : Int)) - rowLo a b most (k1 : Int) + 1 = (rowN a b most (k1 : Int) : Int) := by rw [← he]; exact hpos
  have hvl1 : (rowL a b T most (k1 : Int)).length = rowN a b most (k1 : Int) := rowL_len _ _ _ _ _
  obtain ⟨vs1, hvs1⟩ : ∃ vs1, rowL a b T most (k1 : Int) = vs1 := ⟨_, rfl⟩
  rw [hvs1] at hNP hvl1 ⊢
  obtain ⟨lo1, hlo1'⟩ : ∃ lo1, rowLo a b most (k1 : Int) = lo1 := ⟨_, rfl⟩
  obtain ⟨L1, hL1⟩ : ∃ L1, rowN a b most (k1 : Int) = L1 := ⟨_, rfl⟩
  rw [hlo1', hL1] at hNP ⊢
  rw [hL1] at hvl1 hL1p
  rw [hlo1'] at hlo1
  rw [hlo1', hL1] at hpos'
  obtain ⟨x1, hx1⟩ : ∃ x, e - (k1 : Int) = x := ⟨_, rfl⟩
  obtain ⟨x2, hx2⟩ : ∃ x, (k1 : Int) - most = x := ⟨_, rfl⟩
  obtain ⟨x3, hx3⟩ : ∃ x, e + (k1 : Int) = x := ⟨_, rfl⟩
  obtain ⟨x4, hx4⟩ : ∃ x, most - (k1 : Int) = x := ⟨_, rfl⟩
  rw [hx1, hx2] at hlo1
  rw [hx3, hx4] at hpos'
  obtain ⟨x5, hx5⟩ : ∃ x, min x3 x4 = x := ⟨_, rfl⟩
  rw [hx5] at hpos'
  obtain ⟨x6, hx6⟩ : ∃ x, x5 - lo1 = x := ⟨_, rfl⟩
  rw [hx6] at hpos'
  have hdze : -100000 ≤ e ∧ e ≤ 100000 := by omega
  have wk1 : IntKind.i64.wrap (k1 : Int) = (k1 : Int) := wraps_i64 _ (by omega) (by omega)
  have we : IntKind.i64.wrap e = e := wraps_i64 _ (by omega) (by omega)
  have wx1 : IntKind.i64.wrap x1 = x1 := wraps_i64 _ (by omega) (by omega)
  have wx2 : IntKind.i64.wrap x2 = x2 := wraps_i64 _ (by omega) (by omega)
  have wx3 : IntKind.i64.wrap x3 = x3 := wraps_i64 _ (by omega) (by omega)
  have wx4 : IntKind.i64.wrap x4 = x4 := wraps_i64 _ (by omega) (by omega)
  have wx6 : IntKind.i64.wrap x6 = x6 := wraps_i64 _ (by omega) (by omega)
  have wL1 : IntKind.i64.wrap (L1 : Int) = (L1 : Int) := wraps_i64 _ (by omega) (by omega)
  have hmk : ∀ W, (Instr.makeSlice 22 (.int .i64 (L1 : Int)) (.int .i64 (L1 : Int))).run Try.prog W = .ok (.slice (some ⟨W.heap.size, 0, none⟩) L1 L1) (W.alloc (.cells (madeOf (.int .i64 0) L1) 3)) := fun W => make_ints L1 L1 (Nat.le_refl _) (by omega) W
  have hLm : L ≤ 900000 := by
    rw [← hL]; unfold rowN rowLo; omega
  have HNum := Lib.hid (And.intro hvl (And.intro hvl1 (And.intro hL1p (And.intro hla hlb))))
  have HRb := Lib.hid hRb
  have HA := Lib.hid h
  have HB := Lib.hid h'
  have HR0 := Lib.hid hB0
  have hmo : most ≤ 400000 := hmost
  clear h h' hla hlb hlo hL hvs hvl hk1 he hpos hlo1' hL1 hvl1 hvs1 hRb hen hB0
  -- the boxes
  have q3 : Below w.heap.size w (((w.alloc (.cells #[.slice A n c, .slice A' m c', .int .i64 (R : Int), .int .i64 most] 52)).alloc (.cells #[.int .i64 (k0 : Int), .int .i64 lo, .slice (some ⟨B0, 0, none⟩) L L] 57)).alloc (.cells #[.int .i64 0, .int .i64 0, .slice none 0 0] 57)) :=
    (((Below.refl _ w).alloc (Nat.le_refl _) _).alloc (by simp) _).alloc (by simp; omega) _
  have hbp := ((Box.made w 52 #[.slice A n c, .slice A' m c', .int .i64 (R : Int), .int .i64 most]).alloc (.cells #[.int .i64 (k0 : Int), .int .i64 lo, .slice (some ⟨B0, 0, none⟩) L L] 57)).alloc (.cells #[.int .i64 0, .int .i64 0, .slice none 0 0] 57)
  have hbl := (Box.made (w.alloc (.cells #[.slice A n c, .slice A' m c', .int .i64 (R : Int), .int .i64 most] 52)) 57 #[.int .i64 (k0 : Int), .int .i64 lo, .slice (some ⟨B0, 0, none⟩) L L]).alloc (.cells #[.int .i64 0, .int .i64 0, .slice none 0 0] 57)
  have hbr := Box.made ((w.alloc (.cells #[.slice A n c, .slice A' m c', .int .i64 (R : Int), .int .i64 most] 52)).alloc (.cells #[.int .i64 (k0 : Int), .int .i64 lo, .slice (some ⟨B0, 0, none⟩) L L] 57)) 57 #[.int .i64 0, .int .i64 0, .slice none 0 0]
  simp only [World.size_alloc] at hbl hbr
  have hs3 : (((w.alloc (.cells #[.slice A n c, .slice A' m c', .int .i64 (R : Int), .int .i64 most] 52)).alloc (.cells #[.int .i64 (k0 : Int), .int .i64 lo, .slice (some ⟨B0, 0, none⟩) L L] 57)).alloc (.cells #[.int .i64 0, .int .i64 0, .slice none 0 0] 57)).heap.size = w.heap.size + 3 := by simp
  go_enter Try.func44, Try.ntmps44
  go_wp2_with fail
  generalize ((w.alloc (.cells #[.slice A n c, .slice A' m c', .int .i64 (R : Int), .int .i64 most] 52)).alloc (.cells #[.int .i64 (k0 : Int), .int .i64 lo, .slice (some ⟨B0, 0, none⟩) L L] 57)).alloc (.cells #[.int .i64 0, .int .i64 0, .slice none 0 0] 57) = w3 at q3 hbp hbl hbr hs3 ⊢
  have r0 := fun p : Reach => cell_reach (p := p) (a := ⟨w.heap.size, 0, none⟩) hbp.lt (hbp.cell 0)
  have r1 := fun p : Reach => cell_reach (p := p) (a := ⟨w.heap.size, 1, none⟩) hbp.lt (hbp.cell 1)
  have r2 := fun p : Reach => cell_reach (p := p) (a := ⟨w.heap.size + 1, 0, none⟩) hbl.lt (hbl.cell 0)
  simp at r0 r1 r2
  refine wp_region_reach (by kernel_rfl) (by kernel_rfl) ?_
  repeat (quiet_step (fail))
  refine wpQuiet_nil ?_
  rintro w4 ⟨p4, rfl⟩
  have q4 := q3.trans ((below_reach w3 p4).mono (by omega))
  replace hbp := Box.below hbp (below_reach w3 p4) hbp.lt
  replace hbl := Box.below hbl (below_reach w3 p4) hbl.lt
  replace hbr := Box.below hbr (below_reach w3 p4) hbr.lt
  have hs4 : w.heap.size + 3 ≤ (reach w3 p4).heap.size := by have := (below_reach w3 p4).size; omega
  generalize reach w3 p4 = w4 at q4 hbp hbl hbr hs4 ⊢
  clear r0 r1 r2 q3 hs3
  go_wp2_with fail
  have r0 := fun p : Reach => cell_reach (p := p) (a := ⟨w.heap.size, 3, none⟩) hbp.lt (hbp.cell 3)
  simp at r0
  refine wp_region_reach (by kernel_rfl) (by kernel_rfl) ?_
  repeat (quiet_step (fail))
  refine wpQuiet_nil ?_
  rintro w5 ⟨p5, rfl⟩
  have q5 := q4.trans ((below_reach w4 p5).mono (by omega))
  replace hbp := Box.below hbp (below_reach w4 p5) hbp.lt
  replace hbl := Box.below hbl (below_reach w4 p5) hbl.lt
  replace hbr := Box.below hbr (below_reach w4 p5) hbr.lt
  have hs5 : w.heap.size + 3 ≤ (reach w4 p5).heap.size := by have := (below_reach w4 p5).size; omega
  generalize reach w4 p5 = w5 at q5 hbp hbl hbr hs5 ⊢
  clear r0 q4 hs4
  go_wp2_with fail
  have q6 : Below w.heap.size w ((w5.alloc (.cells (madeOf (.int .i64 0) L1) 3)).alloc (.cells #[.int .i64 (k1 : Int), .int .i64 lo1, .slice (some ⟨w5.heap.size, 0, none⟩) L1 L1] 57)) :=
    (q5.alloc (by omega) _).alloc (by simp; omega) _
  have hbn : RowP ((w5.alloc (.cells (madeOf (.int .i64 0) L1) 3)).alloc (.cells #[.int .i64 (k1 : Int), .int .i64 lo1, .slice (some ⟨w5.heap.size, 0, none⟩) L1 L1] 57)) w5.heap.size vs1 0 :=
    ⟨_, (Box.made w5 3 _).alloc _, by rw [madeOf_size]; exact HNum.out.2.1.symm, fun t ht => by omega⟩
  have hbv := Box.made (w5.alloc (.cells (madeOf (.int .i64 0) L1) 3)) 57 #[.int .i64 (k1 : Int), .int .i64 lo1, .slice (some ⟨w5.heap.size, 0, none⟩) L1 L1]
  simp only [World.size_alloc] at hbv
  replace hbp := (hbp.alloc (.cells (madeOf (.int .i64 0) L1) 3)).alloc (.cells #[.int .i64 (k1 : Int), .int .i64 lo1, .slice (some ⟨w5.heap.size, 0, none⟩) L1 L1] 57)
  replace hbl := (hbl.alloc (.cells (madeOf (.int .i64 0) L1) 3)).alloc (.cells #[.int .i64 (k1 : Int), .int .i64 lo1, .slice (some ⟨w5.heap.size, 0, none⟩) L1 L1] 57)
  replace hbr := (hbr.alloc (.cells (madeOf (.int .i64 0) L1) 3)).alloc (.cells #[.int .i64 (k1 : Int), .int .i64 lo1, .slice (some ⟨w5.heap.size, 0, none⟩) L1 L1] 57)
  have HI0 : Hid (RowP ((w5.alloc (.cells (madeOf (.int .i64 0) L1) 3)).alloc (.cells #[.int .i64 (k1 : Int), .int .i64 lo1, .slice (some ⟨w5.heap.size, 0, none⟩) L1 L1] 57)) w5.heap.size vs1 0 ∧ _ ∧ _ ∧ _ ∧ _ ∧ _) := Lib.hid ⟨hbn, hbp, hbl, hbr, hbv, q6⟩
  have hs6 : w5.heap.size + 2 ≤ ((w5.alloc (.cells (madeOf (.int .i64 0) L1) 3)).alloc (.cells #[.int .i64 (k1 : Int), .int .i64 lo1, .slice (some ⟨w5.heap.size, 0, none⟩) L1 L1] 57)).heap.size := by simp
  clear hbn hbp hbl hbr hbv q6 q5
  go_loopw [50] (fun v wr => ∃ t : Nat, t ≤ L1 ∧ v = .int .i64 (t : Int) ∧ w5.heap.size + 2 ≤ wr.heap.size ∧ Hid (RowP wr w5.heap.size vs1 t ∧ Box wr w.heap.size 52 #[.slice A n c, .slice A' m c', .int .i64 (R : Int), .int .i64 most] ∧
      Box wr (w.heap.size + 1) 57 #[.int .i64 (k0 : Int), .int .i64 lo, .slice (some ⟨B0, 0, none⟩) L L] ∧ Box wr (w.heap.size + 1 + 1) 57 #[.int .i64 0, .int .i64 0, .slice none 0 0] ∧
      Box wr (w5.heap.size + 1) 57 #[.int .i64 (k1 : Int), .int .i64 lo1, .slice (some ⟨w5.heap.size, 0, none⟩) L1 L1] ∧ Below w.heap.size w wr)) (fun v _ => L1 - (intOf v).toNat)
  case atStart => exact ⟨0, Nat.zero_le _, rfl, hs6, HI0⟩
  case round =>
    obtain ⟨t, ht, rfl, hsz, HI⟩ := hrel
    by_cases htl : t < L1
    · obtain ⟨d, hd⟩ : ∃ d, lo1 + (t : Int) = d := ⟨_, rfl⟩
      obtain ⟨y1, hy1⟩ : ∃ y, d - 1 = y := ⟨_, rfl⟩
      obtain ⟨y2, hy2⟩ : ∃ y, d + 1 = y := ⟨_, rfl⟩
      obtain ⟨p0, hp0⟩ : ∃ y, rowAt vs lo d = y := ⟨_, rfl⟩
      obtain ⟨p1, hp1⟩ : ∃ y, rowAt vs lo (d - 1) = y := ⟨_, rfl⟩
      obtain ⟨p2, hp2⟩ : ∃ y, rowAt vs lo (d + 1) = y := ⟨_, rfl⟩
      obtain ⟨z0, hz0⟩ : ∃ y, p0 - (R : Int) = y := ⟨_, rfl⟩
      obtain ⟨z1, hz1⟩ : ∃ y, p1 - 1 = y := ⟨_, rfl⟩
      obtain ⟨M0, hM0⟩ : ∃ y, min (min z0 z1) p2 = y := ⟨_, rfl⟩
      obtain ⟨nd, hnd⟩ : ∃ y, -d = y := ⟨_, rfl⟩
      obtain ⟨M, hM⟩ : ∃ y, max (max M0 0) nd = y := ⟨_, rfl⟩
      have hMM : M = max (max (min (min (p0 - (R : Int)) (p1 - 1)) p2) 0) (-d) := by rw [hz0, hz1, hM0, hnd, hM]
      obtain ⟨i, hMi, hi, i1, i2, i3, hd0, hd1, hlo0, hlo1b, ⟨pp0, pn0⟩, ⟨pp1, pn1⟩, ⟨pp2, pn2⟩, hrow⟩ := hNP.out (t : Int) d (by omega) (by omega) hd p0 p1 p2 M hp0 hp1 hp2 hMM
      rw [Int.toNat_natCast] at hrow
      obtain ⟨E, hE⟩ : ∃ E, extE a b d i = E := ⟨_, rfl⟩
      rw [hE] at hrow
      have hnev : never = 9223372036854775807 := rfl
      have hRz := HRb.out
      have hbw := HI.out.2.2.2.2.2
      have hmin := fun W ts t => min3_Z (P := Try.prog) W ts t z0 z1 p2 M0 hM0
      have hmax := fun W ts t => max3_Z (P := Try.prog) W ts t M0 0 nd M hM
      rw [hMi] at hmax
      have wd : IntKind.i64.wrap d = d := wraps_i64 _ (by omega) (by omega)
      have wy1 : IntKind.i64.wrap y1 = y1 := wraps_i64 _ (by omega) (by omega)
      have wy2 : IntKind.i64.wrap y2 = y2 := wraps_i64 _ (by omega) (by omega)
      have wz0 : IntKind.i64.wrap z0 = z0 := wraps_i64 _ (by omega) (by omega)
      have wz1 : IntKind.i64.wrap z1 = z1 := wraps_i64 _ (by omega) (by omega)
      have wnd : IntKind.i64.wrap nd = nd := wraps_i64 _ (by omega) (by omega)
      have hat : ∀ (z v : Int), rowAt vs lo z = v → -1000000 ≤ z ∧ z ≤ 1000000 → ∀ W, Below wr.heap.size wr W → Calls Try.prog 43 #[.agg #[.int .i64 (k0 : Int), .int .i64 lo, .slice (some ⟨B0, 0, none⟩) L L], .int .i64 z] W fun e w' => e = .returned (.int .i64 v) ∧ Below W.heap.size W w' := fun z v hv hz W hW => by
        have := at_any (k0 : Int) lo z (some ⟨B0, 0, none⟩) L L vs W ((HR0.out.arr' HNum.out.1).up (hbw.trans (hW.mono hbw.size))) (by omega) (by omega) hz
        rwa [hv] at this
      have HC0 := Lib.hid (hat d p0 hp0 (by omega))
      have HC1 := Lib.hid (hat y1 p1 (by rw [← hy1]; exact hp1) (by omega))
      have HC2 := Lib.hid (hat y2 p2 (by rw [← hy2]; exact hp2) (by omega))
      have HCx : Hid (∀ W, Below wr.heap.size wr W → Calls Try.prog 45 #[.agg #[.slice A n c, .slice A' m c', .int .i64 (R : Int), .int .i64 most], .int .i64 (i : Int), .int .i64 d] W fun e w' => e = .returned (.int .i64 (E : Int)) ∧ Below W.heap.size W w') := Lib.hid fun W hW => by
        have := extend_any A A' n c m c' (R : Int) most d i a b W (HA.out.up (hbw.trans (hW.mono hbw.size))) (HB.out.up (hbw.trans (hW.mono hbw.size))) (by omega) (by omega) (by omega) (by omega) i1 i2 i3
        rwa [hE] at this
      have HRow := Lib.hid hrow
      have hPB := HI.out.2.1
      have hRB := HI.out.2.2.1
      have hVB := HI.out.2.2.2.2.1
      have g0 := fun p : Reach => cell_reach (p := p) (a := ⟨w.heap.size, 2, none⟩) hPB.lt (hPB.cell 2)
      have g1 := fun p : Reach => cell_reach (p := p) (a := ⟨w.heap.size + 1, 0, none⟩) hRB.lt (hRB.cell 0)
      have g2 := fun p : Reach => cell_reach (p := p) (a := ⟨w.heap.size + 1, 1, none⟩) hRB.lt (hRB.cell 1)
      have g3 := fun p : Reach => cell_reach (p := p) (a := ⟨w.heap.size + 1, 2, none⟩) hRB.lt (hRB.cell 2)
      simp at g0 g1 g2 g3
      have ztl : (t : Int) < (L1 : Int) := by omega
      have zt0 : (0 : Int) ≤ (t : Int) := by omega
      clear hp0 hp1 hp2 hM0 hM hMM hMi i1 i2 i3 hE hrow hat hPB hRB hVB hnev pn0 pn1 pn2 hRz hi
      go_wp2_with fail
      refine wp_region_reach (by kernel_rfl) (by kernel_rfl) ?_
      repeat (quiet_step (first
        | (go_at_call 43; with_reducible exact calls_reach (HC0.out _ (below_reach _ _)))
        | (go_at_call 43; with_reducible exact calls_reach (HC1.out _ (below_reach _ _)))
        | (go_at_call 43; with_reducible exact calls_reach (HC2.out _ (below_reach _ _)))))
      refine wpQuiet_nil ?_
      rintro w7 ⟨p7, rfl⟩
      have q7 := below_reach wr p7
      have HI7 : Hid (RowP (reach wr p7) w5.heap.size vs1 t ∧ Box (reach wr p7) w.heap.size 52 #[.slice A n c, .slice A' m c', .int .i64 (R : Int), .int .i64 most] ∧
          Box (reach wr p7) (w.heap.size + 1) 57 #[.int .i64 (k0 : Int), .int .i64 lo, .slice (some ⟨B0, 0, none⟩) L L] ∧ Box (reach wr p7) (w.heap.size + 1 + 1) 57 #[.int .i64 0, .int .i64 0, .slice none 0 0] ∧
          Box (reach wr p7) (w5.heap.size + 1) 57 #[.int .i64 (k1 : Int), .int .i64 lo1, .slice (some ⟨w5.heap.size, 0, none⟩) L1 L1] ∧ Below w.heap.size w (reach wr p7)) := Lib.hid (by
        obtain ⟨i1, i2, i3, i4, i5, i6⟩ := HI.out
        exact ⟨i1.keep (q7.block _ i1.lt), i2.below q7 i2.lt, i3.below q7 i3.lt, i4.below q7 i4.lt, i5.below q7 i5.lt, i6.trans (q7.mono i6.size)⟩)
      have hs7 : wr.heap.size ≤ (reach wr p7).heap.size := q7.size
      generalize reach wr p7 = w7 at q7 HI7 hs7 ⊢
      clear g0 g1 g2 g3 HC0 HC1 HC2 HI
      have hPB := HI7.out.2.1
      have hVB := HI7.out.2.2.2.2.1
      have g0 := hPB.cell 0
      have g1 := hPB.cell 1
      have g2 := hPB.cell 2
      have g3 := hPB.cell 3
      have g4 := hVB.cell 2
      simp at g0 g1 g2 g3 g4
      have HCy : Hid (∀ W, Below w7.heap.size w7 W → Calls Try.prog 45 #[.agg #[.slice A n c, .slice A' m c', .int .i64 (R : Int), .int .i64 most], .int .i64 (i : Int), .int .i64 d] W fun e w' => e = .returned (.int .i64 (E : Int)) ∧ Below w7.heap.size w7 w') := Lib.hid fun W hW =>
        (HCx.out W (q7.trans (hW.mono hs7))).mono fun e w' h => ⟨h.1, below_next hW h.2⟩
      have hne1 : w5.heap.size ≠ w.heap.size := by omega
      have hne2 : w5.heap.size + 1 ≠ w5.heap.size := by omega
      have HKeep : Hid (∀ W, w7.grownBy W (some w5.heap.size) → w7.grownBy W (some w5.heap.size) ∧ W.cell? ⟨w.heap.size, 0, none⟩ = some (.slice A n c) ∧ W.cell? ⟨w.heap.size, 1, none⟩ = some (.slice A' m c') ∧ W.cell? ⟨w.heap.size, 2, none⟩ = some (.int .i64 (R : Int)) ∧ W.cell? ⟨w.heap.size, 3, none⟩ = some (.int .i64 most) ∧
          W.cell? ⟨w5.heap.size + 1, 2, none⟩ = some (.slice (some ⟨w5.heap.size, 0, none⟩) L1 L1)) := Lib.hid fun W hW => by
        have k1 := hPB.grown hW (fun e => hne1 (Option.some.inj e).symm)
        have k2 := hVB.grown hW (fun e => hne2 (Option.some.inj e))
        have l0 := k1.cell 0
        have l1 := k1.cell 1
        have l2 := k1.cell 2
        have l3 := k1.cell 3
        have l4 := k2.cell 2
        simp at l0 l1 l2 l3 l4
        exact ⟨hW, l0, l1, l2, l3, l4⟩
      have HSt : Hid (∀ W, Below w7.heap.size w7 W → (∃ v, W.cell? ⟨w5.heap.size, t, none⟩ = some v) ∧ W.frozen? ⟨w5.heap.size, t, none⟩ = false) := Lib.hid fun W hW =>
        (HI7.out.1.keep (hW.block _ HI7.out.1.lt)).has (by rw [HNum.out.2.1]; exact htl)
      clear hPB hVB HCx
      go_wp2_with fail
      go_region_held3 (fun v => w7.grownBy v (some w5.heap.size) ∧ v.cell? ⟨w.heap.size, 0, none⟩ = some (.slice A n c) ∧ v.cell? ⟨w.heap.size, 1, none⟩ = some (.slice A' m c') ∧ v.cell? ⟨w.heap.size, 2, none⟩ = some (.int .i64 (R : Int)) ∧ v.cell? ⟨w.heap.size, 3, none⟩ = some (.int .i64 most) ∧
          v.cell? ⟨w5.heap.size + 1, 2, none⟩ = some (.slice (some ⟨w5.heap.size, 0, none⟩) L1 L1)) (first | exact HKeep.out _ (grown_of_below _ (Below.refl _ _).drew) | exact HKeep.out _ (grown_of_below _ hbI) | exact HKeep.out _ (grown_trans (grown_of_below _ hbI) (grown_set _ _ _ _)))
        (first
          | (go_at_call 45; (with_reducible refine (HCy.out _ ?_).mono ?_); go_must (first | exact hbI | exact (Below.refl _ _).drew); rintro e wI ⟨rfl, hbI⟩; obtain ⟨⟨vI, cI⟩, fI⟩ := HSt.out _ hbI))
      have HI9 : Hid (RowP (wI.setCell ⟨w5.heap.size, t, none⟩ (.int .i64 (E : Int))) w5.heap.size vs1 (t + 1) ∧ Box (wI.setCell ⟨w5.heap.size, t, none⟩ (.int .i64 (E : Int))) w.heap.size 52 #[.slice A n c, .slice A' m c', .int .i64 (R : Int), .int .i64 most] ∧
          Box (wI.setCell ⟨w5.heap.size, t, none⟩ (.int .i64 (E : Int))) (w.heap.size + 1) 57 #[.int .i64 (k0 : Int), .int .i64 lo, .slice (some ⟨B0, 0, none⟩) L L] ∧ Box (wI.setCell ⟨w5.heap.size, t, none⟩ (.int .i64 (E : Int))) (w.heap.size + 1 + 1) 57 #[.int .i64 0, .int .i64 0, .slice none 0 0] ∧
          Box (wI.setCell ⟨w5.heap.size, t, none⟩ (.int .i64 (E : Int))) (w5.heap.size + 1) 57 #[.int .i64 (k1 : Int), .int .i64 lo1, .slice (some ⟨w5.heap.size, 0, none⟩) L1 L1] ∧ Below w.heap.size w (wI.setCell ⟨w5.heap.size, t, none⟩ (.int .i64 (E : Int)))) := Lib.hid (by
        obtain ⟨i1, i2, i3, i4, i5, i6⟩ := HI7.out
        have kg := grown_trans (grown_of_below (some w5.heap.size) hbI) (grown_set wI w5.heap.size t (.int .i64 (E : Int)))
        refine ⟨(i1.keep (hbI.block _ i1.lt)).put HRow.out, i2.grown kg ?_, i3.grown kg ?_, i4.grown kg ?_, i5.grown kg ?_, below_of_row i6 kg (by omega)⟩
        all_goals (intro e; injection e; omega))
      have hs9 : w5.heap.size + 2 ≤ (wI.setCell ⟨w5.heap.size, t, none⟩ (.int .i64 (E : Int))).heap.size := by rw [World.size_setCell]; have := hbI.size; omega
      obtain ⟨t1, ht1⟩ : ∃ t1, t + 1 = t1 := ⟨_, rfl⟩
      rw [ht1] at HI9
      have et1 : (t : Int) + 1 = (t1 : Int) := by omega
      have wt1 : IntKind.i64.wrap (t1 : Int) = (t1 : Int) := wraps_i64 _ (by omega) (by omega)
      have ht1l : t1 ≤ L1 := by omega
      have hms : L1 - t1 < L1 - t := by omega
      clear ht1
      clear g0 g1 g2 g3 g4 HCy HSt HKeep HI7
      go_wp2_with fail
      go_roundw
      case rel => exact ⟨t1, ht1l, by go_num, hs9, HI9⟩
      case measure => first | (simp [intOf]; done) | (simp [intOf]; omega)
    · obtain rfl : t = L1 := by omega
      have HW := Lib.hid hsz
      have hrx := HI.out.2.2.2.1
      have hvx := HI.out.2.2.2.2.1
      have v0 := hvx.cell 0
      have v1 := hvx.cell 1
      have v2 := hvx.cell 2
      have x0 := hrx.cell 0
      have x1' := hrx.cell 1
      have x2' := hrx.cell 2
      have f0 := hrx.free 0
      have f1 := hrx.free 1
      have f2 := hrx.free 2
      simp at v0 v1 v2 x0 x1' x2'
      go_wp2_with fail
      have hp := ((hrx.put 0 (.int .i64 (k1 : Int))).put 1 (.int .i64 lo1)).put 2 (.slice (some ⟨w5.heap.size, 0, none⟩) t t)
      have hrow : RowB wr w5.heap.size vs1 := by
        have := HI.out.1
        rw [← HNum.out.2.1] at this
        exact this.whole
      have kg := grown_trans (grown_trans (grown_set wr (w.heap.size + 1 + 1) 0 (.int .i64 (k1 : Int))) (grown_set _ (w.heap.size + 1 + 1) 1 (.int .i64 lo1))) (grown_set _ (w.heap.size + 1 + 1) 2 (.slice (some ⟨w5.heap.size, 0, none⟩) t t))
      have hrow2 := Box.grown hrow kg (by intro e; injection e; omega)
      have kf := below_of_row HI.out.2.2.2.2.2 kg (by omega)
      have d0 := hp.cell 0
      have d1 := hp.cell 1
      have d2 := hp.cell 2
      simp at d0 d1 d2
      refine bodyPost_ret (v := .agg #[.int .i64 (k1 : Int), .int .i64 lo1, .slice (some ⟨w5.heap.size, 0, none⟩) t t]) (by simp [results, Try.results44, go_sem, d0, d1, d2]) rfl ?_
      exact ⟨_, rfl, by omega, hrow2, kf⟩

end Go.Proofs.Ytlloofmmblhnjaa
