/-
  The contract of the reference's reader of a list of texts.
-/
import Derived.Test.YtefonoaffeahjaaRefL
namespace Go.Proofs.Ytefonoaffeahjaa
open Go.RowKit

set_option maxHeartbeats 1600000 in
theorem refTexts_bad (g B at_ : Nat) (bs : List UInt8) (f : Bool) (mx long : Int) (w : World) (h : RRd w g B bs at_ f) (hlen : bs.length ≤ 1000000000000) (hd : f = true ∨ decI 0 mx (bs.drop at_) = none) :
    Calls Try.prog 36 #[.pointer (some ⟨g, 0, none⟩), .int .i64 mx, .int .i64 long] w fun e w' => e = .returned (.slice none 0 0) ∧ w.grownBy w' (some g) ∧ RRd w' g B bs at_ true := by
  have hrr := h
  obtain ⟨v, hb, hs, ha, hB⟩ := h
  have h1 := hb.cell 1
  simp at h1
  have HD := Lib.hid hd
  clear hd
  go_enter Try.func36, Try.ntmps36
  go_wp2_with fail
  refine (refInt_any g B at_ bs f 0 mx w hrr hlen).mono ?_
  intro e w1 he
  obtain ⟨hg, he⟩ := he
  have he' : e = .returned (.int .i64 0) ∧ RRd w1 g B bs at_ true := by
    cases f with
    | true => cases ho : decI 0 mx (bs.drop at_) <;> (rw [ho] at he; exact he)
    | false =>
      rcases HD.out with h | h
      · cases h
      · rw [h] at he; exact he
  clear he
  obtain ⟨rfl, hr1⟩ := he'
  have hrr1 := hr1
  obtain ⟨v1, hb1, hs1, ha1, hB1⟩ := hr1
  have k1 := hb1.cell 1
  have k2 := hb1.cell 2
  have j1 := hb1.free 1
  simp at k1 k2
  go_wp2_with fail
  refine wp_loop_rounds 1 ?_
  rw [rounds_succ]
  go_wp2
  go_ret
  have hm := rrd_move (W := w1) hrr1 (grown_refl _ _) ha
  exact ⟨rfl, grown_trans hg hm.1, hm.2⟩

set_option maxHeartbeats 3200000 in
set_option maxRecDepth 100000 in
theorem refTexts_some (g B at_ m : Nat) (bs r0 : List UInt8) (mx long : Int) (w : World) (h : RRd w g B bs at_ false) (hlen : bs.length ≤ 1000000000000) (hd : decI 0 mx (bs.drop at_) = some ((m : Int), r0)) :
    Calls Try.prog 36 #[.pointer (some ⟨g, 0, none⟩), .int .i64 mx, .int .i64 long] w (RefEnd (isRow 9 sv w.heap.size) (.slice none 0 0) w g B bs at_ false (decN (decT long) m r0)) := by
  obtain ⟨o, ho⟩ : ∃ o, decN (decT long) m r0 = o := ⟨_, rfl⟩
  rw [ho]
  have HO := Lib.hid ho
  clear ho
  have hrr := h
  obtain ⟨v, hb, hs, ha, hB⟩ := h
  have h1 := hb.cell 1
  simp at h1
  have hlt := hb.lt
  obtain ⟨hr0, hrl⟩ := dec_rest ha hd
  have hm9 := (decI_canon hd).2.2.2.2
  have HD := Lib.hid hd
  have HR := Lib.hid hr0
  clear hd hr0 hb hs
  go_enter Try.func36, Try.ntmps36
  go_wp2_with fail
  refine (refInt_any g B at_ bs false 0 mx w hrr hlen).mono ?_
  intro e w1 he
  rw [HD.out] at he
  obtain ⟨hg, y, rfl, rfl, hr1⟩ := he
  clear hrr h1
  go_wp2_with fail
  go_loopw [9, 10] (fun vo vi wr => ∃ k : Nat, k ≤ m ∧ vi = .int .i64 k ∧ w.grownBy wr (some g) ∧ ((∃ xs r, Hid (decN (decT long) k r0 = some (xs, r)) ∧ RRd wr g B bs (bs.length - r.length) false ∧ wr.ownsRow w.heap.size 9 1 vo xs.length (xs.map sv)) ∨ (Hid (decN (decT long) m r0 = none) ∧ ∃ at1, RRd wr g B bs at1 true))) (fun _ vi _ => m - (intOf vi).toNat)
  case atStart => exact ⟨0, by omega, rfl, hg, .inl ⟨[], r0, rfl, hr1, World.ownsRow_nil _ _ _ _⟩⟩
  case round =>
    obtain ⟨k, hk, rfl, hgr, hst⟩ := hrel
    rcases hst with ⟨xs, r, HK, hrd, hown⟩ | ⟨HN, at1, hrd⟩
    · have hrr2 := hrd
      obtain ⟨v2, hb2, hs2, ha2, hB2⟩ := hrr2
      have k2 := hb2.cell 2
      simp at k2
      clear hb2 hs2
      by_cases hkm : k < m
      · have hkl := decN_len (decT_len (mx := long)) k r0 r xs HK.out
        obtain ⟨ks, hks⟩ := decN_suffix (decT_suffix (mx := long)) k r0 r xs HK.out
        have hsuf : r = bs.drop (bs.length - r.length) := by
          have h1 := HR.out
          rw [h1, List.drop_drop] at hks
          exact (suffix_at hks).1
        have HX := Lib.hid hkl.2
        have hxl : xs.length ≤ 1000000000000 := by omega
        have HS := Lib.hid hsuf
        clear hkl hks hsuf
        go_wp2_with fail
        refine (refText_any g B (bs.length - r.length) bs false long wr hrd hlen).mono ?_
        intro e w2 he
        rw [← HS.out] at he
        obtain ⟨hg2, he⟩ := he
        have hown2 := own_past hown hg2 hlt
        have hgr2 := grown_trans hgr hg2
        cases hel : decT long r with
        | none =>
          rw [hel] at he
          obtain ⟨rfl, hr2⟩ := he
          have hfail := Lib.hid (decN_fail k m r0 r xs HK.out hel hkm)
          clear hel
          have hbase : w.heap.size ≤ (w2.alloc (.cells #[sv []] 9)).heap.size := by have := hgr2.size; simp; omega
          go_wp2_with (at_builtin; refine append_cell _ rfl (.tmp 30) (.tmp 34) 39 rfl w.heap.size 9 (.string (str [])) 16 Try.underlying39 info_text rfl (by decide) u9 xs.length (xs.map sv) rfl (hown2.alloc _) (sv []) rfl w2.heap.size rfl ?_ hxl ?_ ?_; exact cell_new _ 0 _ _; exact hbase; intro vl' w3 hown3 hb3)
          have hb4 : Below w.heap.size w2 w3 := ((Below.refl _ w2).alloc hgr2.size _).trans hb3
          clear hb3 hbase k2
          go_roundw
          case rel => exact ⟨k + 1, by omega, value_int (by omega), grown_below hgr2 hb4, .inr ⟨hfail, _, hr2.below hb4 hlt⟩⟩
          case measure => simp [intOf]; omega
        | some p =>
          obtain ⟨x, r2⟩ := p
          rw [hel] at he
          obtain ⟨y, rfl, rfl, hr2⟩ := he
          have HQ := Lib.hid (decN_snoc k r0 r r2 xs x HK.out hel)
          clear hel
          have hbase : w.heap.size ≤ (w2.alloc (.cells #[sv x] 9)).heap.size := by have := hgr2.size; simp; omega
          go_wp2_with (at_builtin; refine append_cell _ rfl (.tmp 30) (.tmp 34) 39 rfl w.heap.size 9 (.string (str [])) 16 Try.underlying39 info_text rfl (by decide) u9 xs.length (xs.map sv) rfl (hown2.alloc _) (sv x) rfl w2.heap.size rfl ?_ hxl ?_ ?_; exact cell_new _ 0 _ _; exact hbase; intro vl' w3 hown3 hb3)
          have hb4 : Below w.heap.size w2 w3 := ((Below.refl _ w2).alloc hgr2.size _).trans hb3
          clear hb3 hbase k2
          go_roundw
          case rel => exact ⟨k + 1, by omega, value_int (by omega), grown_below hgr2 hb4, .inl ⟨xs ++ [x], r2, HQ, hr2.below hb4 hlt, by rw [List.length_append, List.map_append]; exact hown3⟩⟩
          case measure => simp [intOf]; omega
      · have hkm' : k = m := by omega
        subst hkm'
        have ho := HK.out.symm.trans HO.out
        subst ho
        clear hkm
        go_wp2
        go_ret
        exact ⟨hgr, _, rfl, hown, hrd⟩
    · have ho := HN.out.symm.trans HO.out
      subst ho
      have hrr2 := hrd
      obtain ⟨v2, hb2, hs2, ha2, hB2⟩ := hrr2
      have k1 := hb2.cell 1
      have k2 := hb2.cell 2
      have j1 := hb2.free 1
      simp at k1 k2
      clear hb2 hs2
      by_cases hkm : k < m
      · go_wp2
        go_ret
        have hm := rrd_move (W := wr) hrd (grown_refl _ _) ha
        exact ⟨grown_trans hgr hm.1, rfl, hm.2⟩
      · go_wp2
        go_ret
        have hm := rrd_move (W := wr) hrd (grown_refl _ _) ha
        exact ⟨grown_trans hgr hm.1, rfl, hm.2⟩

theorem refTexts_any (g B at_ : Nat) (bs : List UInt8) (f : Bool) (mx long : Int) (w : World) (h : RRd w g B bs at_ f) (hlen : bs.length ≤ 1000000000000) :
    Calls Try.prog 36 #[.pointer (some ⟨g, 0, none⟩), .int .i64 mx, .int .i64 long] w (RefEnd (isRow 9 sv w.heap.size) (.slice none 0 0) w g B bs at_ f (decList (decT long) mx (bs.drop at_))) := by
  unfold decList
  cases f with
  | true =>
    exact (refTexts_bad g B at_ bs true mx long w h hlen (.inl rfl)).mono fun e w' ⟨h1, h2, h3⟩ => RefEnd.of_bad _ h1 h2 h3
  | false =>
    cases hd : decI 0 mx (bs.drop at_) with
    | none => exact (refTexts_bad g B at_ bs false mx long w h hlen (.inr hd)).mono fun e w' ⟨h1, h2, h3⟩ => ⟨h2, h1, h3⟩
    | some p =>
      obtain ⟨n, r⟩ := p
      obtain ⟨m, rfl⟩ : ∃ m : Nat, n = m := ⟨n.toNat, by have := (decI_canon hd).2.1; omega⟩
      simp only [Int.toNat_natCast]
      exact refTexts_some g B at_ m bs r mx long w h hlen hd

end Go.Proofs.Ytefonoaffeahjaa
