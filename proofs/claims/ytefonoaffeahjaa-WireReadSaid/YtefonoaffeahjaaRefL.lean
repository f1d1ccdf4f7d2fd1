/-
  The contracts of the reference's readers of lists.
-/
import Derived.Test.YtefonoaffeahjaaRefT
namespace Go.Proofs.Ytefonoaffeahjaa
open Go.RowKit

theorem grown_below {w wr w' : World} {g : Nat} (h : w.grownBy wr (some g)) (hb : Below w.heap.size wr w') : w.grownBy w' (some g) :=
  ⟨hb.os.trans h.os, hb.tape.trans h.tape, hb.output.trans h.output, Nat.le_trans h.size hb.size, fun i hi hne => (hb.block i hi).trans (h.block i hi hne)⟩

theorem RRd.below {w w' : World} {g B at_ b : Nat} {bs : List UInt8} {f : Bool} (h : RRd w g B bs at_ f) (hb : Below b w w') (hg : g < b) : RRd w' g B bs at_ f := by
  obtain ⟨v, hbox, hs, ha, hB⟩ := h
  exact ⟨v, hbox.below hb hg, hs.keep fun p hp => hb.cell (by omega), ha, hB⟩

theorem own_past {w w' : World} {base T g n : Nat} {v : Value} {xs : List Value} (h : w.ownsRow base T 1 v n xs) (hg : w.grownBy w' (some g)) (hlt : g < base) : w'.ownsRow base T 1 v n xs :=
  h.kept hg (.inr fun e => by have := (h.lt g e).1; omega)

theorem RRd.lt {w : World} {g B at_ : Nat} {bs : List UInt8} {f : Bool} (h : RRd w g B bs at_ f) : g < w.heap.size := by
  obtain ⟨v, hb, _⟩ := h
  exact hb.lt

theorem decN_suffix {α : Type} {el : List UInt8 → Option (α × List UInt8)} (hel : ∀ bs x r, el bs = some (x, r) → ∃ k, r = bs.drop k) : ∀ (n : Nat) (r0 r : List UInt8) (xs : List α), decN el n r0 = some (xs, r) → ∃ k, r = r0.drop k
  | 0, r0, r, xs, h => by
    simp only [decN, Option.some.injEq, Prod.mk.injEq] at h
    exact ⟨0, by rw [← h.2]; rfl⟩
  | n + 1, r0, r, xs, h => by
    rw [decN] at h
    cases h1 : el r0 with
    | none => rw [h1] at h; cases h
    | some p =>
      obtain ⟨y, r1⟩ := p
      rw [h1] at h
      simp only at h
      cases h2 : decN el n r1 with
      | none => rw [h2] at h; cases h
      | some q =>
        obtain ⟨l, r2⟩ := q
        rw [h2] at h
        simp only [Option.some.injEq, Prod.mk.injEq] at h
        obtain ⟨k1, e1⟩ := hel r0 y r1 h1
        obtain ⟨k2, e2⟩ := decN_suffix hel n r1 r2 l h2
        exact ⟨k1 + k2, by rw [← h.2, e2, e1, List.drop_drop]⟩

theorem decI_suffix {lo hi : Int} (bs : List UInt8) (x : Int) (r : List UInt8) (h : decI lo hi bs = some (x, r)) : ∃ k, r = bs.drop k :=
  ⟨(encI x).length, by rw [(decI_canon h).1, List.drop_left]⟩
theorem decT_suffix {mx : Int} (bs : List UInt8) (x : List UInt8) (r : List UInt8) (h : decT mx bs = some (x, r)) : ∃ k, r = bs.drop k :=
  ⟨(encT x).length, by rw [(decT_canon h).1, List.drop_left]⟩

theorem suffix_at {bs r : List UInt8} {k : Nat} (h : r = bs.drop k) : r = bs.drop (bs.length - r.length) ∧ r.length ≤ bs.length := by
  have hl := congrArg List.length h
  rw [List.length_drop] at hl
  refine ⟨?_, by omega⟩
  by_cases hk : k ≤ bs.length
  · rw [show bs.length - r.length = k from by omega]; exact h
  · have h0 : r = [] := by rw [h]; exact List.drop_of_length_le (by omega)
    rw [h0]
    simp

set_option maxHeartbeats 1600000 in
theorem refInts_bad (g B at_ : Nat) (bs : List UInt8) (f : Bool) (mx lo hi : Int) (w : World) (h : RRd w g B bs at_ f) (hlen : bs.length ≤ 1000000000000) (hd : f = true ∨ decI 0 mx (bs.drop at_) = none) :
    Calls Try.prog 35 #[.pointer (some ⟨g, 0, none⟩), .int .i64 mx, .int .i64 lo, .int .i64 hi] w fun e w' => e = .returned (.slice none 0 0) ∧ w.grownBy w' (some g) ∧ RRd w' g B bs at_ true := by
  have hrr := h
  obtain ⟨v, hb, hs, ha, hB⟩ := h
  have h1 := hb.cell 1
  simp at h1
  have HD := Lib.hid hd
  clear hd
  go_enter Try.func35, Try.ntmps35
  go_wp2_with fail
  refine (refInt_any g B at_ bs f 0 mx w hrr hlen).mono ?_
  intro e w1 he
  obtain ⟨hg, he⟩ := he
  have he' : e = .returned (.int .i64 0) ∧ RRd w1 g B bs at_ true := by
    cases f with
    | true => cases ho : decI 0 mx (bs.drop at_) <;> (rw [ho] at he; exact he)
    | false =>
      rcases HD.out with h | h
      · cases h
      · rw [h] at he; exact he
  clear he
  obtain ⟨rfl, hr1⟩ := he'
  have hrr1 := hr1
  obtain ⟨v1, hb1, hs1, ha1, hB1⟩ := hr1
  have k1 := hb1.cell 1
  have k2 := hb1.cell 2
  have j1 := hb1.free 1
  simp at k1 k2
  go_wp2_with fail
  refine wp_loop_rounds 1 ?_
  rw [rounds_succ]
  go_wp2
  go_ret
  have hm := rrd_move (W := w1) hrr1 (grown_refl _ _) ha
  exact ⟨rfl, grown_trans hg hm.1, hm.2⟩

set_option maxHeartbeats 3200000 in
set_option maxRecDepth 100000 in
theorem refInts_some (g B at_ m : Nat) (bs r0 : List UInt8) (mx lo hi : Int) (w : World) (h : RRd w g B bs at_ false) (hlen : bs.length ≤ 1000000000000) (hd : decI 0 mx (bs.drop at_) = some ((m : Int), r0)) :
    Calls Try.prog 35 #[.pointer (some ⟨g, 0, none⟩), .int .i64 mx, .int .i64 lo, .int .i64 hi] w (RefEnd (isRow 3 iv w.heap.size) (.slice none 0 0) w g B bs at_ false (decN (decI lo hi) m r0)) := by
  obtain ⟨o, ho⟩ : ∃ o, decN (decI lo hi) m r0 = o := ⟨_, rfl⟩
  rw [ho]
  have HO := Lib.hid ho
  clear ho
  have hrr := h
  obtain ⟨v, hb, hs, ha, hB⟩ := h
  have h1 := hb.cell 1
  simp at h1
  have hlt := hb.lt
  obtain ⟨hr0, hrl⟩ := dec_rest ha hd
  have hm9 := (decI_canon hd).2.2.2.2
  have HD := Lib.hid hd
  have HR := Lib.hid hr0
  clear hd hr0 hb hs
  go_enter Try.func35, Try.ntmps35
  go_wp2_with fail
  refine (refInt_any g B at_ bs false 0 mx w hrr hlen).mono ?_
  intro e w1 he
  rw [HD.out] at he
  obtain ⟨hg, y, rfl, rfl, hr1⟩ := he
  clear hrr h1
  go_wp2_with fail
  go_loopw [11, 12] (fun vo vi wr => ∃ k : Nat, k ≤ m ∧ vi = .int .i64 k ∧ w.grownBy wr (some g) ∧ ((∃ xs r, Hid (decN (decI lo hi) k r0 = some (xs, r)) ∧ RRd wr g B bs (bs.length - r.length) false ∧ wr.ownsRow w.heap.size 3 1 vo xs.length (xs.map iv)) ∨ (Hid (decN (decI lo hi) m r0 = none) ∧ ∃ at1, RRd wr g B bs at1 true))) (fun _ vi _ => m - (intOf vi).toNat)
  case atStart => exact ⟨0, by omega, rfl, hg, .inl ⟨[], r0, rfl, hr1, World.ownsRow_nil _ _ _ _⟩⟩
  case round =>
    obtain ⟨k, hk, rfl, hgr, hst⟩ := hrel
    rcases hst with ⟨xs, r, HK, hrd, hown⟩ | ⟨HN, at1, hrd⟩
    · have hrr2 := hrd
      obtain ⟨v2, hb2, hs2, ha2, hB2⟩ := hrr2
      have k2 := hb2.cell 2
      simp at k2
      clear hb2 hs2
      by_cases hkm : k < m
      · have hkl := decN_len (decI_len (lo := lo) (hi := hi)) k r0 r xs HK.out
        obtain ⟨ks, hks⟩ := decN_suffix (decI_suffix (lo := lo) (hi := hi)) k r0 r xs HK.out
        have hsuf : r = bs.drop (bs.length - r.length) := by
          have h1 := HR.out
          rw [h1, List.drop_drop] at hks
          exact (suffix_at hks).1
        have HX := Lib.hid hkl.2
        have hxl : xs.length ≤ 1000000000000 := by omega
        have HS := Lib.hid hsuf
        clear hkl hks hsuf
        go_wp2_with fail
        refine (refInt_any g B (bs.length - r.length) bs false lo hi wr hrd hlen).mono ?_
        intro e w2 he
        rw [← HS.out] at he
        obtain ⟨hg2, he⟩ := he
        have hown2 := own_past hown hg2 hlt
        have hgr2 := grown_trans hgr hg2
        cases hel : decI lo hi r with
        | none =>
          rw [hel] at he
          obtain ⟨rfl, hr2⟩ := he
          have hfail := Lib.hid (decN_fail k m r0 r xs HK.out hel hkm)
          clear hel
          have hbase : w.heap.size ≤ (w2.alloc (.cells #[iv 0] 3)).heap.size := by have := hgr2.size; simp; omega
          go_wp2_with (at_builtin; refine append_cell _ rfl (.tmp 32) (.tmp 37) 38 rfl w.heap.size 3 (.int .i64 0) 8 Try.underlying38 info_int rfl (by decide) u11 xs.length (xs.map iv) rfl (hown2.alloc _) (iv 0) rfl w2.heap.size rfl ?_ hxl ?_ ?_; exact cell_new _ 0 _ _; exact hbase; intro vl' w3 hown3 hb3)
          have hb4 : Below w.heap.size w2 w3 := ((Below.refl _ w2).alloc hgr2.size _).trans hb3
          clear hb3 hbase k2
          go_roundw
          case rel => exact ⟨k + 1, by omega, value_int (by omega), grown_below hgr2 hb4, .inr ⟨hfail, _, hr2.below hb4 hlt⟩⟩
          case measure => simp [intOf]; omega
        | some p =>
          obtain ⟨x, r2⟩ := p
          rw [hel] at he
          obtain ⟨y, rfl, rfl, hr2⟩ := he
          have HQ := Lib.hid (decN_snoc k r0 r r2 xs x HK.out hel)
          clear hel
          have hbase : w.heap.size ≤ (w2.alloc (.cells #[iv x] 3)).heap.size := by have := hgr2.size; simp; omega
          go_wp2_with (at_builtin; refine append_cell _ rfl (.tmp 32) (.tmp 37) 38 rfl w.heap.size 3 (.int .i64 0) 8 Try.underlying38 info_int rfl (by decide) u11 xs.length (xs.map iv) rfl (hown2.alloc _) (iv x) rfl w2.heap.size rfl ?_ hxl ?_ ?_; exact cell_new _ 0 _ _; exact hbase; intro vl' w3 hown3 hb3)
          have hb4 : Below w.heap.size w2 w3 := ((Below.refl _ w2).alloc hgr2.size _).trans hb3
          clear hb3 hbase k2
          go_roundw
          case rel => exact ⟨k + 1, by omega, value_int (by omega), grown_below hgr2 hb4, .inl ⟨xs ++ [x], r2, HQ, hr2.below hb4 hlt, by rw [List.length_append, List.map_append]; exact hown3⟩⟩
          case measure => simp [intOf]; omega
      · have hkm' : k = m := by omega
        subst hkm'
        have ho := HK.out.symm.trans HO.out
        subst ho
        clear hkm
        go_wp2
        go_ret
        exact ⟨hgr, _, rfl, hown, hrd⟩
    · have ho := HN.out.symm.trans HO.out
      subst ho
      have hrr2 := hrd
      obtain ⟨v2, hb2, hs2, ha2, hB2⟩ := hrr2
      have k1 := hb2.cell 1
      have k2 := hb2.cell 2
      have j1 := hb2.free 1
      simp at k1 k2
      clear hb2 hs2
      by_cases hkm : k < m
      · go_wp2
        go_ret
        have hm := rrd_move (W := wr) hrd (grown_refl _ _) ha
        exact ⟨grown_trans hgr hm.1, rfl, hm.2⟩
      · go_wp2
        go_ret
        have hm := rrd_move (W := wr) hrd (grown_refl _ _) ha
        exact ⟨grown_trans hgr hm.1, rfl, hm.2⟩

theorem refInts_any (g B at_ : Nat) (bs : List UInt8) (f : Bool) (mx lo hi : Int) (w : World) (h : RRd w g B bs at_ f) (hlen : bs.length ≤ 1000000000000) :
    Calls Try.prog 35 #[.pointer (some ⟨g, 0, none⟩), .int .i64 mx, .int .i64 lo, .int .i64 hi] w (RefEnd (isRow 3 iv w.heap.size) (.slice none 0 0) w g B bs at_ f (decList (decI lo hi) mx (bs.drop at_))) := by
  unfold decList
  cases f with
  | true =>
    exact (refInts_bad g B at_ bs true mx lo hi w h hlen (.inl rfl)).mono fun e w' ⟨h1, h2, h3⟩ => RefEnd.of_bad _ h1 h2 h3
  | false =>
    cases hd : decI 0 mx (bs.drop at_) with
    | none => exact (refInts_bad g B at_ bs false mx lo hi w h hlen (.inr hd)).mono fun e w' ⟨h1, h2, h3⟩ => ⟨h2, h1, h3⟩
    | some p =>
      obtain ⟨n, r⟩ := p
      obtain ⟨m, rfl⟩ : ∃ m : Nat, n = m := ⟨n.toNat, by have := (decI_canon hd).2.1; omega⟩
      simp only [Int.toNat_natCast]
      exact refInts_some g B at_ m bs r mx lo hi w h hlen hd

end Go.Proofs.Ytefonoaffeahjaa
