/-
  The contract of the statement WireRead.
-/
import Derived.Test.YtefonoaffeahjaaSame
namespace Go.Proofs.Ytefonoaffeahjaa
open Go.RowKit

theorem same_all (g g' B base at_ : Nat) (bs : List UInt8) (f : Bool) (kk mx lo hi : Int) (w : World) (hr : Rdr w g (bs.drop at_) f) (hs : RRd w g' B bs at_ f) (hgg : g < g') (hBb : B ≤ base) (hbg : base ≤ g) (hb0 : base ≤ w.heap.size) (hlen : bs.length ≤ 1000000000000) :
    Calls Try.prog 12 #[.pointer (some ⟨g, 0, none⟩), .pointer (some ⟨g', 0, none⟩), .agg #[.int .i64 kk, .int .i64 mx, .int .i64 lo, .int .i64 hi]] w (SameEnd w g g' B base bs) := by
  by_cases z0 : kk = 0
  · subst z0; exact same_int g g' B base at_ bs f mx lo hi w hr hs hgg hBb hbg hb0 hlen
  by_cases z1 : kk = 1
  · subst z1; exact same_bool g g' B base at_ bs f mx lo hi w hr hs hgg hBb hbg hb0 hlen
  by_cases z2 : kk = 2
  · subst z2; exact same_text g g' B base at_ bs f mx lo hi w hr hs hgg hBb hbg hb0 hlen
  by_cases z3 : kk = 3
  · subst z3; exact same_ints g g' B base at_ bs f mx lo hi w hr hs hgg hBb hbg hb0 hlen
  exact same_texts g g' B base at_ bs f kk mx lo hi w hr hs hgg hBb hbg hb0 hlen (by simpa using z0) (by simpa using z1) (by simpa using z2) (by simpa using z3)

set_option maxHeartbeats 800000 in
theorem from_own (v : Value) (bs : List UInt8) (B : Nat) (w : World) (h : Sl w B v bs) (hlen : bs.length ≤ 100000000000) :
    Calls Try.prog 11 #[v] w fun e w' => ∃ g v', e = .returned (.pointer (some ⟨g, 0, none⟩)) ∧ w.heap.size ≤ g ∧ Box w' g 61 #[v', .bool false] ∧ Sl w' g v' bs ∧ w'.ownsRow w.heap.size 5 1 v' bs.length (bs.map bv) ∧ w.grownBy w' none := by
  go_enter Try.func11, Try.ntmps11
  go_wp2_with (at_builtin; refine append_bytes _ rfl _ (.tmp 3) rfl w.heap.size B (.slice none 0 0) [] rfl (World.ownsRow_nil _ _ _ _) bs v rfl h (by simp; omega) (Nat.le_refl _) ?_; intro v' w1 hown hgrow; obtain ⟨A, c, rfl⟩ := (Sl.of_own hown).form)
  go_ret
  refine ⟨_, _, rfl, hgrow.size, Box.made _ _ _, ?_, ?_, ?_⟩
  · exact (Sl.of_own hown).below ((Below.refl _ _).alloc (Nat.le_refl _) _)
  · exact own_keep hown (World.grownBy_alloc _ _ _)
  · exact grown_of_below _ (hgrow.alloc hgrow.size _)

theorem Sl.past {w w' : World} {B lo T n : Nat} {v : Value} {bs : List UInt8} {xs : List Value} {row : Option Nat} (h : Sl w B v bs) (ho : w.ownsRow lo T 1 v n xs) (hg : w.grownBy w' row) (hr : ∀ k, row = some k → k < lo) : Sl w' B v bs := by
  rcases h with h | ⟨a, c, e, hl, hb, hc⟩
  · exact .inl h
  · refine .inr ⟨a, c, e, hl, hb, fun i u hu => ?_⟩
    have hcell := hc i u hu
    refine (World.cell?_of_block (hg.block (a.add i).block (cell_block' hcell) (fun e2 => ?_))).trans hcell
    have h1 := hr _ e2.symm
    have h2 := (ho.lt a.block (by rw [e]; rfl)).1
    rw [add_block] at h1
    omega
where cell_block' {W : World} {a : Addr} {v : Value} (h : W.cell? a = some v) : a.block < W.heap.size := World.block_lt_of_cell? W a h

/-- In w, the slice v reads as the calls ls: four integers each. -/
def Rds (w : World) (B : Nat) (v : Value) (ls : List (Int × Int × Int × Int)) : Prop :=
  (∃ A c, v = .slice A 0 c ∧ ls = []) ∨ ∃ (b off c : Nat), v = .slice (some ⟨b, off, none⟩) ls.length c ∧ b < B ∧
    ∀ i k m l h, ls[i]? = some (k, m, l, h) → w.cell? ⟨b, off + i * 4, none⟩ = some (.int .i64 k) ∧ w.cell? ⟨b, off + i * 4 + 1, none⟩ = some (.int .i64 m) ∧ w.cell? ⟨b, off + i * 4 + 2, none⟩ = some (.int .i64 l) ∧ w.cell? ⟨b, off + i * 4 + 3, none⟩ = some (.int .i64 h)

theorem Rds.below {w w' : World} {B : Nat} {v : Value} {ls : List (Int × Int × Int × Int)} (h : Rds w B v ls) (hb : Below B w w') : Rds w' B v ls := by
  rcases h with h | ⟨b, off, c, e, hB, hc⟩
  · exact .inl h
  · refine .inr ⟨b, off, c, e, hB, fun i k m l h hi => ?_⟩
    obtain ⟨h0, h1, h2, h3⟩ := hc i k m l h hi
    exact ⟨(hb.cell (p := ⟨b, _, none⟩) hB).trans h0, (hb.cell (p := ⟨b, _, none⟩) hB).trans h1, (hb.cell (p := ⟨b, _, none⟩) hB).trans h2, (hb.cell (p := ⟨b, _, none⟩) hB).trans h3⟩

theorem Rds.form {w : World} {B : Nat} {v : Value} {ls : List (Int × Int × Int × Int)} (h : Rds w B v ls) : ∃ A c, v = .slice A ls.length c := by
  rcases h with ⟨A, c, e, rfl⟩ | ⟨b, off, c, e, _⟩
  · exact ⟨_, _, e⟩
  · exact ⟨_, _, e⟩

theorem Rds.at_ {w : World} {B n c : Nat} {A : Option Addr} {ls : List (Int × Int × Int × Int)} (h : Rds w B (.slice A n c) ls) {i : Nat} (hi : i < n) :
    ∃ b off k m l hh, A = some ⟨b, off, none⟩ ∧ w.cell? ⟨b, off + i * 4, none⟩ = some (.int .i64 k) ∧ w.cell? ⟨b, off + i * 4 + 1, none⟩ = some (.int .i64 m) ∧ w.cell? ⟨b, off + i * 4 + 2, none⟩ = some (.int .i64 l) ∧ w.cell? ⟨b, off + i * 4 + 3, none⟩ = some (.int .i64 hh) := by
  rcases h with ⟨A, c0, e, _⟩ | ⟨b, off, c', e, _, hc⟩
  · injection e; omega
  · injection e with e1 e2 e3
    rcases hx : ls[i]'(by omega) with ⟨k, m, l, hh⟩
    obtain ⟨h0, h1, h2, h3⟩ := hc i k m l hh (by rw [List.getElem?_eq_getElem (by omega), hx])
    exact ⟨b, off, k, m, l, hh, e1, h0, h1, h2, h3⟩

set_option maxHeartbeats 1600000 in
set_option maxRecDepth 100000 in
theorem wireRead_away (Ar : Option Addr) (q cr : Nat) (Al : Option Addr) (n cl : Nat) (w : World) (h : 600 < q ∨ 20 < n) :
    Calls Try.prog 3 #[.slice Ar q cr, .slice Al n cl] w fun e w' => e = .returned (.bool true) ∧ Below w.heap.size w w' := by
  by_cases h6 : 600 < q
  · have h6' : (600 : Int) < (q : Int) := by omega
    clear h
    go_enter Try.func3, Try.ntmps3
    go_wp2_with fail
    refine (awake_any w).mono ?_
    rintro e w1 ⟨rfl, hg1⟩
    go_wp2_with fail
    go_ret
    exact ⟨rfl, below_of_grown hg1⟩
  · have h6' : (q : Int) ≤ 600 := by omega
    have h2' : (20 : Int) < (n : Int) := by omega
    clear h
    go_enter Try.func3, Try.ntmps3
    go_wp2_with fail
    refine (awake_any w).mono ?_
    rintro e w1 ⟨rfl, hg1⟩
    go_wp2_with fail
    go_ret
    exact ⟨rfl, below_of_grown hg1⟩

/-- The cells of a row of bytes from i on. -/
def From_ (wr : World) (y : Value) (bs : List UInt8) (i : Nat) : Prop := ∀ gi, y.ownBlock = some gi → ∃ cs : Array Value, Box wr gi 5 cs ∧ ∀ j u, i ≤ j → bs[j]? = some u → cs[j]? = some (bv u)

theorem From_.start {w : World} {base : Nat} {y : Value} {bs : List UInt8} (h : w.ownsRow base 5 1 y bs.length (bs.map bv)) : From_ w y bs 0 := by
  intro gi hgi
  rcases h.2 with ⟨rfl, _⟩ | ⟨g, cap, cur, rfl, _, hg, _, _, _, htake⟩
  · simp [Value.ownBlock] at hgi
  · have : g = gi := by simpa [Value.ownBlock] using hgi
    subst this
    refine ⟨cur, hg, fun j u _ hu => ?_⟩
    have hj : j < bs.length := (List.getElem?_eq_some_iff.1 hu).1
    have h2 : (bs.map bv)[j]? = some (bv u) := by rw [List.getElem?_map, hu]; rfl
    rw [← htake, List.getElem?_take, if_pos (by omega)] at h2
    rw [← Array.getElem?_toList]
    exact h2

theorem own_form {w : World} {base n : Nat} {y : Value} {xs : List Value} (h : w.ownsRow base 5 1 y n xs) (hn : 0 < n) : ∃ gi c, y = .slice (some ⟨gi, 0, none⟩) n c := by
  rcases h.2 with ⟨_, h0⟩ | ⟨g, cap, cur, e, _⟩
  · omega
  · exact ⟨g, cap, e⟩

set_option maxHeartbeats 3200000 in
set_option maxRecDepth 100000 in
theorem wireRead_main (rv lv : Value) (bs : List UInt8) (ls : List (Int × Int × Int × Int)) (w : World) (hr : Sl w w.heap.size rv bs) (hl : Rds w w.heap.size lv ls) (h6 : bs.length ≤ 600) (h2 : ls.length ≤ 20) :
    Calls Try.prog 3 #[rv, lv] w fun e w' => e = .returned (.bool true) ∧ Below w.heap.size w w' := by
  obtain ⟨Ar, cr, rfl⟩ := hr.form
  obtain ⟨Al, cl, rfl⟩ := hl.form
  obtain ⟨q, hq⟩ : ∃ q, bs.length = q := ⟨_, rfl⟩
  obtain ⟨n, hn⟩ : ∃ n, ls.length = n := ⟨_, rfl⟩
  rw [hq] at hr ⊢
  rw [hn] at hl ⊢
  have h6' : (q : Int) ≤ 600 := by omega
  have h2' : (n : Int) ≤ 20 := by omega
  have HQ := Lib.hid hq
  clear hq hn
  go_enter Try.func3, Try.ntmps3
  go_wp2_with fail
  refine (awake_any w).mono ?_
  rintro e w1 ⟨rfl, hg1⟩
  have hb1 := below_of_grown hg1
  clear hg1
  go_wp2_with fail
  refine (behind_any _ _ bs [] w.heap.size 0 w1 (hr.below hb1) (Sl.nil_ _ _) hb1.size (by omega) (by omega) (by simp)).mono ?_
  rintro e w2 ⟨y, rfl, hown2, hb2⟩
  rw [List.append_nil] at hown2
  have hbw2 := hb1.trans (hb2.mono hb1.size)
  go_wp2_with fail
  refine (from_own y bs _ w2 (Sl.of_own hown2) (by omega)).mono ?_
  rintro e w3 ⟨g, v3, rfl, hge, hbox, hsl, hown3, hgr⟩
  go_wp2_with fail
  have hgr4 := World.grownBy_alloc w3 (.cells #[.slice Ar q cr, .int .i64 0, .bool false] 30) none
  have hbs4 := Box.made w3 30 #[.slice Ar q cr, .int .i64 0, .bool false]
  generalize hgs : w3.heap.size = gs at hbs4 ⊢
  generalize w3.alloc (.cells #[.slice Ar q cr, .int .i64 0, .bool false] 30) = w4 at hgr4 hbs4 ⊢
  have hg24 : w2.grownBy w4 none := grown_trans hgr hgr4
  have h12 := hb2.size
  have hbw4 : Below w.heap.size w w4 := below_grown hbw2 hg24 (Nat.le_refl _) (by simp)
  have hlt3 := hbox.lt
  have hbox4 := hbox.grown hgr4 (by simp)
  have hsl4 := hsl.grown hgr4 (Nat.le_of_lt hlt3) (by simp)
  have hown34 := own_keep hown3 hgr4
  have hown24 := own_keep hown2 hg24
  have hrow : ∀ k, y.ownBlock = some k → w.heap.size ≤ k ∧ k < w2.heap.size := fun k hk => ⟨by have := (hown2.lt k hk).1; have := hb1.size; omega, (hown2.lt k hk).2⟩
  have hstart := From_.start hown24
  have HROW := Lib.hid hrow
  obtain ⟨Ay, cy, hy⟩ := (Sl.of_own hown2).form
  rw [HQ.out] at hy
  have hq0 : 0 < q → ∃ gi, Ay = some ⟨gi, 0, none⟩ := fun h => by
    obtain ⟨gi, c, e⟩ := own_form hown2 (by rw [HQ.out]; exact h)
    rw [hy, HQ.out] at e
    injection e with e _ _
    exact ⟨gi, e⟩
  have HQ0 := Lib.hid hq0
  clear hrow hq0 hbox hsl hown2 hown3 hgr hgr4 hb2 hbw2 hown24
  rw [hy] at HROW hstart ⊢
  have HST := Lib.hid hstart
  clear hy hstart
  go_loopw [8] (fun vi wr => ∃ i : Nat, i ≤ q ∧ vi = .int .i64 i ∧ w4.grownBy wr (Value.ownBlock (.slice Ay q cy)) ∧ Hid (From_ wr (.slice Ay q cy) bs i)) (fun vi _ => q - (intOf vi).toNat)
  case atStart => exact ⟨0, by omega, rfl, grown_refl _ _, HST⟩
  case round =>
    obtain ⟨i, hi, rfl, hgi, HF⟩ := hrel
    by_cases hiq : i < q
    · obtain ⟨gi, rfl⟩ := HQ0.out (by omega)
      obtain ⟨cs, hcs, hcells⟩ := HF.out gi rfl
      have hu : bs[i]? = some (bs[i]'(by rw [HQ.out]; exact hiq)) := List.getElem?_eq_getElem _
      generalize bs[i]'(by rw [HQ.out]; exact hiq) = u at hu
      have hc := (hcs.cell i).trans (hcells i u (Nat.le_refl _) hu)
      have hf := hcs.free i
      simp only [bv] at hc
      have HCELLS := Lib.hid hcells
      clear hcells hu
      go_wp2
      go_roundw
      case rel => exact ⟨i + 1, by omega, value_int (by omega), grown_trans hgi (grown_put _ gi i _), fun g2 hg2 => by
        have e : gi = g2 := by simpa [Value.ownBlock] using hg2
        subst e
        refine ⟨_, hcs.put i _, fun j u hj hu => ?_⟩
        rw [Array.getElem?_setIfInBounds_ne (by omega)]
        exact HCELLS.out j u (by omega) hu⟩
      case measure => simp [intOf]; omega
    · obtain ⟨wA, rfl⟩ : ∃ wo : World, wo = wr := ⟨_, rfl⟩
      have hlo : ∀ k, Value.ownBlock (.slice Ay q cy) = some k → k < w2.heap.size := fun k hk => (HROW.out k hk).2
      have hlow : ∀ k, Value.ownBlock (.slice Ay q cy) = some k → w.heap.size ≤ k := fun k hk => (HROW.out k hk).1
      have hb23 : w2.heap.size ≤ w4.heap.size := hg24.size
      have hgeA : w.heap.size ≤ w2.heap.size := by have := hb1.size; omega
      have hbwA : Below w.heap.size w wA := below_grown hbw4 hgi (Nat.le_refl _) hlow
      have hslA := hsl4.past hown34 hgi hlo
      have hboxA := hbox4.grown hgi (fun e => by have := hlo g e.symm; omega)
      have hboxsA := hbs4.grown hgi (fun e => by have := hlo gs e.symm; omega)
      have hrdA : Rdr wA g (bs.drop 0) false := ⟨v3, hboxA, hslA⟩
      have hrrA : RRd wA gs w.heap.size bs 0 false := ⟨_, hboxsA, hr.below hbwA, by omega, by omega⟩
      have hggs : g < gs := by omega
      have hwg : w.heap.size ≤ g := by omega
      clear hboxA hboxsA hslA hsl4 hbox4 hbs4 hown34 hgi HF hlo hlow hbw4 hb1 hg24 hi
      go_wp2_with fail
      go_loopw [9] (fun vi wr => ∃ (j at_ : Nat) (f : Bool), j ≤ n ∧ vi = .int .i64 j ∧ Below w.heap.size w wr ∧ Rdr wr g (bs.drop at_) f ∧ RRd wr gs w.heap.size bs at_ f) (fun vi _ => n - (intOf vi).toNat)
      case atStart => exact ⟨0, 0, false, by omega, rfl, hbwA, hrdA, hrrA⟩
      case round =>
        obtain ⟨j, at_, f, hj, rfl, hbw, hrd, hrr⟩ := hrel
        by_cases hjn : j < n
        · obtain ⟨b, off, k, m, l, hh, rfl, c0, c1, c2, c3⟩ := (hl.below hbw).at_ hjn
          clear hiq
          go_wp2_with fail
          refine (same_all g gs w.heap.size w.heap.size at_ bs f k m l hh wr hrd hrr hggs (Nat.le_refl _) hwg hbw.size (by omega)).mono ?_
          rintro e w5 ⟨rfl, hb5, at5, f5, hrd5, hrr5⟩
          have hbx := hbw.trans hb5
          clear hrd hrr hbw hb5 c0 c1 c2 c3
          go_wp2_with fail
          refine (rest_any g _ f5 w5 hrd5).mono ?_
          rintro e w6 ⟨rfl, rfl⟩
          go_wp2_with fail
          refine (refRest_any gs w.heap.size at5 bs f5 _ hrr5 (by omega)).mono ?_
          rintro e w6 ⟨rfl, q6, rfl⟩
          go_wp2_with fail
          refine (done_any g _ f5 _ (hrd5.grown (grown_drewN _ _ _))).mono ?_
          rintro e w7 ⟨rfl, rfl⟩
          go_wp2_with fail
          refine (refDone_any gs w.heap.size at5 bs f5 _ (hrr5.grown (grown_drewN _ _ _)) (by omega)).mono ?_
          rintro e w7 ⟨rfl, q7, rfl⟩
          go_wp2_with fail
          go_roundw
          case rel => exact ⟨j + 1, at5, f5, by omega, value_int (by omega), ⟨hbx.os, hbx.tape, hbx.output, hbx.size, hbx.block⟩, hrd5.grown ⟨rfl, rfl, rfl, Nat.le_refl _, fun _ _ _ => rfl⟩, hrr5.grown ⟨rfl, rfl, rfl, Nat.le_refl _, fun _ _ _ => rfl⟩⟩
          case measure => simp [intOf]; omega
        · clear hiq
          go_wp2
          go_ret
          exact ⟨rfl, hbw⟩


theorem wireRead_any (rv lv : Value) (bs : List UInt8) (ls : List (Int × Int × Int × Int)) (w : World) (hr : Sl w w.heap.size rv bs) (hl : Rds w w.heap.size lv ls) :
    Calls Try.prog 3 #[rv, lv] w fun e w' => e = .returned (.bool true) ∧ Below w.heap.size w w' := by
  by_cases h : bs.length ≤ 600 ∧ ls.length ≤ 20
  · exact wireRead_main rv lv bs ls w hr hl h.1 h.2
  · obtain ⟨Ar, cr, rfl⟩ := hr.form
    obtain ⟨Al, cl, rfl⟩ := hl.form
    exact wireRead_away Ar _ cr Al _ cl w (by omega)

end Go.Proofs.Ytefonoaffeahjaa
