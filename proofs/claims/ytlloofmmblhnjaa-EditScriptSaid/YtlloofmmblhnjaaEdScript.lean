/-
  The program's script.
-/
import Derived.Test.YtlloofmmblhnjaaPkAN
import Derived.Laws.EntriesVeiled
namespace Go.Proofs.Ytlloofmmblhnjaa
open Go.RowKit Go.Shelf Go.Lib
attribute [local go_sem] Oper.semAt_some

theorem grid_end {a b : List Int} {R : Nat} {T : Nat → Nat → Nat} {S : Nat → Nat → List OpI} (g : Grid a b R T S) {i j : Nat} (hi : i ≤ a.length) (hj : j ≤ b.length) (h0 : T i j = 0) (hne : ¬ ∃ x, a[i]? = some x ∧ b[j]? = some x) : S i j = [] := by
  by_cases hia : i < a.length
  · by_cases hjb : j < b.length
    · obtain ⟨x, hx⟩ := at_lt hia
      obtain ⟨y, hy⟩ := at_lt hjb
      have := g.other i j x y hx hy (fun e => hne ⟨x, hx, by rw [hy, e]⟩)
      omega
    · obtain rfl : j = b.length := by omega
      have := g.end2 i hi
      omega
  · obtain rfl : i = a.length := by omega
    have := g.end1 j hj
    obtain rfl : j = b.length := by omega
    exact g.s_done

theorem backf_any (pc : Array Value) (w : World) (A A' : Option Addr) (la ca lb cb : Nat) (R most : Int) (hpc : pc = #[.slice A la ca, .slice A' lb cb, .int .i64 R, .int .i64 most]) :
    Calls Try.prog 48 #[.agg pc] w fun e w' => e = .returned (.func (.func 51) #[] #[.pointer (some ⟨w.heap.size, 0, none⟩)]) ∧ w' = w.alloc (.cells pc 52) := by
  subst hpc
  go_enter Try.func48, Try.ntmps48
  go_wp2
  go_ret
  exact ⟨rfl, rfl⟩

theorem StI.soft {pc : Array Value} {w : World} {s Bp Bl Bi Bj Bt Bk base : Nat} {i j : Nat} {O : List OpI} {v : Value} {W W' : World} (pl : Places s Bp Bl Bi Bj Bt Bk base) (hs : w.heap.size = s) (h : StI pc w Bp Bl Bi Bj Bt Bk base i j O v W) {lo : Nat} (hl : base ≤ lo) (ha : Soft lo v.ownBlock W W') : StI pc w Bp Bl Bi Bj Bt Bk base i j O v W' := by
  obtain ⟨q1, q2, q3, q4, q5, q6, q7⟩ := pl
  exact {
    p := ha.block _ _ h.p (.inl (by omega))
    l := ha.block _ _ h.l (.inl (by omega))
    i := ha.block _ _ h.i (.inl (by omega))
    j := ha.block _ _ h.j (.inl (by omega))
    t := ha.block _ _ h.t (.inl (by omega))
    k := ha.block _ _ h.k (.inl (by omega))
    row := ⟨h.row.1, by
      rcases h.row.2 with h | ⟨g', cap, cur, h1, h2, h3, h4⟩
      · exact .inl h
      · exact .inr ⟨g', cap, cur, h1, h2, ha.block _ _ h3 (.inr (.inl (by rw [h1]; rfl))), h4⟩⟩
    bel := ha.below h.bel (by omega) (Nat.le_refl _)
    size := Nat.le_trans h.size ha.size }

set_option maxRecDepth 20000 in
set_option maxHeartbeats 25600000 in
theorem script_any {a b : List Int} {R : Nat} {T : Nat → Nat → Nat} {S : Nat → Nat → List OpI} (gr : Grid a b R T S) (A A' : Option Addr) (n c m c' : Nat) (most : Int) (w : World) (h : Arr iv w w.heap.size (.slice A n c) a) (h' : Arr iv w w.heap.size (.slice A' m c') b)
    (hn : n ≤ 100000) (hm : m ≤ 100000) (hmost : most ≤ 400000) (hen : dz (enZ a b) ≤ most) (hmo0 : 0 ≤ most) (hD : T 0 0 ≤ 255) (hDm : (T 0 0 : Int) ≤ most) :
    Calls Try.prog 37 #[.agg #[.slice A n c, .slice A' m c', .int .i64 (R : Int), .int .i64 most]] w fun e w' => ∃ (Ar : Option Addr) (l cr : Nat), e = .returned (.slice Ar l cr) ∧ w'.ownsRow w.heap.size 50 2 (.slice Ar l cr) (S 0 0).length ((S 0 0).flatMap ov) ∧ Below w.heap.size w w' := by
  have hla := h.len
  have hlb := h'.len
  obtain ⟨s, hs⟩ : ∃ s, w.heap.size = s := ⟨_, rfl⟩
  have pl : Places s w.heap.size (w.heap.size + 1) (w.heap.size + 1 + 1) (w.heap.size + 1 + 1 + 1) (w.heap.size + 1 + 1 + 1 + 1) (w.heap.size + 1 + 1 + 1 + 1 + 1) (w.heap.size + 6) := ⟨hs, by omega, by omega, by omega, by omega, by omega, by omega⟩
  obtain ⟨pc, hpc⟩ : ∃ pc : Array Value, #[.slice A n c, .slice A' m c', .int .i64 (R : Int), .int .i64 most] = pc := ⟨_, rfl⟩
  obtain ⟨W6, hW6⟩ : ∃ W6, (((((w.alloc (.cells #[.slice A n c, .slice A' m c', .int .i64 (R : Int), .int .i64 most] 52)).alloc (.cells #[.slice none 0 0] 35)).alloc (.cells #[.int .i64 0] 3)).alloc (.cells #[.int .i64 0] 3)).alloc (.cells #[.func (.func 46) #[] #[.pointer (some ⟨w.heap.size, 0, none⟩), .pointer (some ⟨w.heap.size + 1 + 1 + 1, 0, none⟩), .pointer (some ⟨w.heap.size + 1 + 1, 0, none⟩), .pointer (some ⟨w.heap.size + 1, 0, none⟩)]] 70)).alloc (.cells #[.func (.func 47) #[] #[.pointer (some ⟨w.heap.size + 1 + 1, 0, none⟩), .pointer (some ⟨w.heap.size, 0, none⟩), .pointer (some ⟨w.heap.size + 1 + 1 + 1, 0, none⟩), .pointer (some ⟨w.heap.size + 1 + 1 + 1 + 1, 0, none⟩)]] 1) = W6 := ⟨_, rfl⟩
  have hst : StI #[.slice A n c, .slice A' m c', .int .i64 (R : Int), .int .i64 most] w w.heap.size (w.heap.size + 1) (w.heap.size + 1 + 1) (w.heap.size + 1 + 1 + 1) (w.heap.size + 1 + 1 + 1 + 1) (w.heap.size + 1 + 1 + 1 + 1 + 1) (w.heap.size + 6) 0 0 [] (.slice none 0 0) W6 := by
    rw [← hW6]
    have hal : ∀ (V : World) (o : Obj) (k : Nat) (q : Obj), V.heap[k]? = some q → (V.alloc o).heap[k]? = some q := fun V o k q hq => (Below.heap_alloc V o k (Array.getElem?_eq_some_iff.1 hq).1).trans hq
    have hnw : ∀ (V : World) (o : Obj) (k : Nat), V.heap.size = k → (V.alloc o).heap[k]? = some o := fun V o k hk => by rw [← hk]; exact World.alloc_heap_new V o
    exact {
      p := hal _ _ _ _ (hal _ _ _ _ (hal _ _ _ _ (hal _ _ _ _ (hal _ _ _ _ (hnw _ _ _ rfl)))))
      l := hal _ _ _ _ (hal _ _ _ _ (hal _ _ _ _ (hal _ _ _ _ (hnw _ _ _ (by simp)))))
      i := hal _ _ _ _ (hal _ _ _ _ (hal _ _ _ _ (hnw _ _ _ (by simp))))
      j := hal _ _ _ _ (hal _ _ _ _ (hnw _ _ _ (by simp)))
      t := hal _ _ _ _ (hnw _ _ _ (by simp))
      k := hnw _ _ _ (by simp)
      row := ⟨by simp, .inl ⟨rfl, rfl⟩⟩
      bel := ((((((Below.refl _ w).alloc (Nat.le_refl _) _).alloc (by simp) _).alloc (by simp; omega) _).alloc (by simp; omega) _).alloc (by simp; omega) _).alloc (by simp; omega) _
      size := by simp }
  have HW6 := Lib.hid hW6
  have HKp := Lib.hid (keep_any gr A A' n c m c' most w s _ _ _ _ _ _ _ pl hs h h' hn hm 0 0 [] _ W6 hst (Nat.zero_le _) (Nat.zero_le _) rfl)
  have HA := Lib.hid h
  have HB := Lib.hid h'
  have HPl := Lib.hid pl
  have Hs := Lib.hid hs
  have HLa := Lib.hid hla
  have HLb := Lib.hid hlb
  have HDz := Lib.hid hen
  have c0 := hst.k.cell
  simp only [keepF] at c0
  clear h h' hW6 pl hs hla hlb hen hst hpc
  refine (callsIn_wide (n := 100)).1 ?_
  refine callsIn_of_wp_marks Try.func37 rfl trivial ?_ rfl
  simp only [Try.ntmps37, List.size_toArray, List.length_cons, List.length_nil, Nat.reduceAdd, Nat.reduceSub, Array.replicate_succ, Array.replicate_zero, List.push_toArray, List.append_toArray, List.nil_append, List.cons_append]
  have w1 : Fence.wide.fn 47 := trivial
  have w2 : Fence.wide.fn 48 := trivial
  gi_wp2_with fail
  rw [HW6.out]
  refine (callsIn_wide.2 HKp.out).mono ?_
  rintro e W7 ⟨⟨u7, rfl⟩, i1, j1, O1, v1, hS1, -, hi1, hj1, hO1, hT1, hd1, hne1⟩
  have c0 := hS1.k.cell
  have p0 := hS1.p.cell 0
  have p1 := hS1.p.cell 1
  have p2 := hS1.p.cell 2
  have p3 := hS1.p.cell 3
  simp only [keepF] at c0
  simp at p0 p1 p2 p3
  have HS1 := Lib.hid hS1
  have HO1 := Lib.hid hO1
  have HT1 := Lib.hid hT1
  have hd1' : -1 < (j1 : Int) - (i1 : Int) ∧ (j1 : Int) - (i1 : Int) < 1 := by omega
  have HNe1 := Lib.hid hne1
  have HBf := Lib.hid (backf_any #[.slice A n c, .slice A' m c', .int .i64 (R : Int), .int .i64 most] W7 A A' n c m c' (R : Int) most rfl)
  obtain ⟨W8, hW8⟩ : ∃ W8, W7.alloc (.cells #[.slice A n c, .slice A' m c', .int .i64 (R : Int), .int .i64 most] 52) = W8 := ⟨_, rfl⟩
  have hs8 : W8.heap.size = W7.heap.size + 1 := by rw [← hW8]; simp
  have kb8 : Below W7.heap.size W7 W8 := by rw [← hW8]; exact (Below.refl _ W7).alloc (Nat.le_refl _) _
  have hp8 : Box W8 W7.heap.size 52 #[.slice A n c, .slice A' m c', .int .i64 (R : Int), .int .i64 most] := by rw [← hW8]; exact Box.made W7 _ _
  have hb8 : Below w.heap.size w W8 := hS1.bel.trans (kb8.mono hS1.bel.size)
  have hw7 : w.heap.size + 6 ≤ W7.heap.size := hS1.size
  have hg7 : ∀ k, v1.ownBlock = some k → k < W7.heap.size := fun k e => (hS1.own k e).2
  have HSeq := Lib.hid (backward_seq gr 99 (by omega) A A' n c m c' most w.heap.size W7.heap.size W8 (HA.out.below hb8) (HB.out.below hb8) hn hm hmost HDz.out hmo0 hD hDm hb8.size hp8)
  have hS8 := hS1.below kb8
  have HS8 := Lib.hid hS8
  have HW8 := Lib.hid hW8
  have HG7 := Lib.hid hg7
  clear hS1 hO1 hT1 hd1 hne1 hW8 kb8 hp8 hb8 hg7 hS8 HKp HW6
  gi_wp2_with fail
  refine (callsIn_wide.2 HBf.out).mono ?_
  rintro e W8' ⟨rfl, rfl⟩
  rw [HW8.out]
  gi_wp2
  refine wpIn_rangeFunc_vsep rfl (by omega) (gf := 51) (lb := #[.pointer (some ⟨W7.heap.size, 0, none⟩)]) rfl trivial (enters_of Try.func51 (by kernel_rfl) rfl) HSeq.out (Below.refl _ _) (fun _ => rfl)
    (fun g pre V => ∃ (i j : Nat) (O : List OpI) (v : Value), g = v.ownBlock ∧ StI #[.slice A n c, .slice A' m c', .int .i64 (R : Int), .int .i64 most] w w.heap.size (w.heap.size + 1) (w.heap.size + 1 + 1) (w.heap.size + 1 + 1 + 1) (w.heap.size + 1 + 1 + 1 + 1) (w.heap.size + 1 + 1 + 1 + 1 + 1) (w.heap.size + 6) i j O v V ∧ g ≠ some W7.heap.size ∧
      i ≤ n ∧ j ≤ m ∧ S 0 0 = O ++ S i j ∧ T i j + pre.length = T 0 0 ∧ -(pre.length : Int) ≤ (j : Int) - (i : Int) ∧ (j : Int) - (i : Int) ≤ (pre.length : Int) ∧ ¬ ∃ x, a[i]? = some x ∧ b[j]? = some x)
    (fun g s V h k e => by
      obtain ⟨i, j, O, v, rfl, hS, _⟩ := h
      obtain ⟨cs, hc⟩ := own_cells hS.row e
      exact ⟨_, hc, rfl⟩)
    (fun g s V V' h ha => by
      obtain ⟨i, j, O, v, rfl, hS, hr⟩ := h
      exact ⟨i, j, O, v, rfl, hS.soft HPl.out Hs.out (by omega) ha, hr⟩) v1.ownBlock ⟨i1, j1, O1, v1, rfl, HS8.out, fun e => by have := HG7.out _ e; omega, hi1, hj1, HO1.out, by simp [HT1.out], by simp; omega, by simp; omega, HNe1.out⟩
    (fun pre x a' V => ∃ Br, V.heap[Br]? = some (.cells (rowCells a b most x) 57 (0, 0)) ∧ x.1 + 1 + pre.length = T 0 0 ∧ RowB V x.2 (rowL a b T most x.1) ∧
      a' = { tmps := #[.agg #[.slice A n c, .slice A' m c', .int .i64 (R : Int), .int .i64 most], .pointer (some ⟨w.heap.size, 0, none⟩), .slice none 0 0, .pointer (some ⟨w.heap.size + 1, 0, none⟩), .pointer (some ⟨w.heap.size + 1 + 1, 0, none⟩), .pointer (some ⟨w.heap.size + 1 + 1 + 1, 0, none⟩),
        .pointer (some ⟨w.heap.size + 1 + 1 + 1 + 1, 0, none⟩), .pointer (some ⟨w.heap.size + 1 + 1 + 1 + 1 + 1, 0, none⟩), .pointer (some ⟨Br, 0, none⟩),
        .func (.func 46) #[] #[.pointer (some ⟨w.heap.size, 0, none⟩), .pointer (some ⟨w.heap.size + 1 + 1 + 1, 0, none⟩), .pointer (some ⟨w.heap.size + 1 + 1, 0, none⟩), .pointer (some ⟨w.heap.size + 1, 0, none⟩)],
        .func (.func 47) #[] #[.pointer (some ⟨w.heap.size + 1 + 1, 0, none⟩), .pointer (some ⟨w.heap.size, 0, none⟩), .pointer (some ⟨w.heap.size + 1 + 1 + 1, 0, none⟩), .pointer (some ⟨w.heap.size + 1 + 1 + 1 + 1, 0, none⟩)],
        .func (.func 47) #[] #[.pointer (some ⟨w.heap.size + 1 + 1, 0, none⟩), .pointer (some ⟨w.heap.size, 0, none⟩), .pointer (some ⟨w.heap.size + 1 + 1 + 1, 0, none⟩), .pointer (some ⟨w.heap.size + 1 + 1 + 1 + 1, 0, none⟩)],
        u7, .agg #[.slice A n c, .slice A' m c', .int .i64 (R : Int), .int .i64 most], .func (.func 51) #[] #[.pointer (some ⟨W7.heap.size, 0, none⟩)], rowVal a b most x, undef, undef, undef, undef, undef, undef, undef, undef, undef, undef], defers := [] })
    (fun pre x a' V k o o' hx hk ho => by
      obtain ⟨B, h1, h2, h3, h4⟩ := hx
      exact ⟨B, (World.putObj_heap_other (fun e => by rw [e, hk] at h1; cases h1; cases ho)).trans h1, h2, h3.keep (World.putObj_heap_other (fun e => by
        unfold RowB Box at h3
        rw [e, hk] at h3; cases h3; cases ho)), h4⟩) ?assign ?body ?done
  case assign =>
    intro l' go pre x V K hi hV hN hK
    have HV := Lib.hid hV
    clear hV
    unfold rowVal rowCells
    gi_wp2
    have hb := (Below.refl V.heap.size V).alloc (Nat.le_refl _) (.cells (rowCells a b most x) 57)
    obtain ⟨i, j, O, v, rfl, hS, hr⟩ := hi
    exact hK _ _ (RoundV.of_below hb) ⟨i, j, O, v, rfl, hS.below hb, hr⟩ ⟨V.heap.size, World.alloc_heap_new V _, HV.out.1, HV.out.2.keep (hb.block _ HV.out.2.lt), rfl⟩
  case body =>
    rintro l' go pre x a' V hl hr ⟨i, j, O, v, rfl, hS, hg7, hin, hjm, hO, hT, hd1, hd2, hne⟩ ⟨Br, hBr, hx1, hxr, rfl⟩ hlt
    have hOl : O.length ≤ 200000 := by
      have h1 := gr.s_len
      rw [hO, List.length_append] at h1
      have := HLa.out
      have := HLb.out
      omega
    have hch := choose_step gr (c := x.1) (i := i) (j := j) (by rw [HLa.out]; exact hin) (by rw [HLb.out]; exact hjm) (by omega) hne (by have := HLa.out; omega)
    obtain ⟨kk, hkk, HTake⟩ : ∃ kk : Int, chooseE a b R T (x.1 : Int) i j = kk ∧ ∀ V', Below V.heap.size V V' → Calls Try.prog 46 #[.int .i64 kk, .pointer (some ⟨w.heap.size, 0, none⟩), .pointer (some ⟨w.heap.size + 1 + 1 + 1, 0, none⟩), .pointer (some ⟨w.heap.size + 1 + 1, 0, none⟩), .pointer (some ⟨w.heap.size + 1, 0, none⟩)] V' fun e W' =>
        (∃ u, e = .returned u) ∧ ∃ (i' j' : Nat) (O' : List OpI) (v' : Value), StI #[.slice A n c, .slice A' m c', .int .i64 (R : Int), .int .i64 most] w w.heap.size (w.heap.size + 1) (w.heap.size + 1 + 1) (w.heap.size + 1 + 1 + 1) (w.heap.size + 1 + 1 + 1 + 1) (w.heap.size + 1 + 1 + 1 + 1 + 1) (w.heap.size + 6) i' j' O' v' W' ∧
          Stp (w.heap.size + 1) (w.heap.size + 1 + 1) (w.heap.size + 1 + 1 + 1) v.ownBlock v'.ownBlock V W' ∧ i' ≤ n ∧ j' ≤ m ∧ S 0 0 = O' ++ S i' j' ∧ T i' j' = x.1 ∧ -((pre.length : Int) + 1) ≤ (j' : Int) - (i' : Int) ∧ (j' : Int) - (i' : Int) ≤ (pre.length : Int) + 1 := by
      rcases hch with ⟨h1, y, hy, h3, h4, h5⟩ | ⟨h1, h3, h4, h5⟩ | ⟨h1, y, hy, h4, h5⟩
      · refine ⟨2, h1, fun V' hV' => (take2_any A A' n c m c' (R : Int) most b w s _ _ _ _ _ _ _ HPl.out Hs.out HB.out i j O v V' (hS.below hV') (by omega) (by omega) (by omega) y hy).mono ?_⟩
        rintro e W' ⟨hu, v', hS', hR'⟩
        exact ⟨hu, _, _, _, v', hS', (Stp.of_below hV').next hR', by have := HLa.out; omega, by have := lt_at hy; have := HLb.out; omega, by rw [hO, h5]; simp, h4, by omega, by omega⟩
      · refine ⟨3, h1, fun V' hV' => (take3_any A A' n c m c' (R : Int) most b w s _ _ _ _ _ _ _ HPl.out Hs.out HB.out i j O v V' (hS.below hV') (by omega) (by omega) (by omega)).mono ?_⟩
        rintro e W' ⟨hu, v', hS', hR'⟩
        exact ⟨hu, _, _, _, v', hS', (Stp.of_below hV').next hR', by have := HLa.out; omega, hjm, by rw [hO, h5]; simp, h4, by omega, by omega⟩
      · refine ⟨4, h1, fun V' hV' => (take4_any A A' n c m c' (R : Int) most b w s _ _ _ _ _ _ _ HPl.out Hs.out HB.out i j O v V' (hS.below hV') (by omega) (by omega) (by omega) y hy).mono ?_⟩
        rintro e W' ⟨hu, v', hS', hR'⟩
        exact ⟨hu, _, _, _, v', hS', (Stp.of_below hV').next hR', hin, by have := lt_at hy; have := HLb.out; omega, by rw [hO, h5]; simp, h4, by omega, by omega⟩
    obtain ⟨lo, hlo⟩ : ∃ lo, rowLo a b most x.1 = lo := ⟨_, rfl⟩
    obtain ⟨L, hL⟩ : ∃ L, rowN a b most x.1 = L := ⟨_, rfl⟩
    have HChs : Hid (∀ V', Below V.heap.size V V' → Calls Try.prog 49 #[.agg #[.slice A n c, .slice A' m c', .int .i64 (R : Int), .int .i64 most], .agg #[.int .i64 (x.1 : Int), .int .i64 lo, .slice (some ⟨x.2, 0, none⟩) L L], .int .i64 (i : Int), .int .i64 (j : Int)] V' fun e W' =>
        e = .returned (.int .i64 kk) ∧ Below V'.heap.size V' W') := Lib.hid fun V' hV' => by
      have := choose_any gr A A' n c m c' most x.1 x.2 i j V' (hxr.keep (hV'.block _ hxr.lt)) (by have := HLa.out; omega) (by have := HLb.out; omega) hmost (by omega) (by omega) (by omega) (by omega) (by omega) #[.int .i64 (x.1 : Int), .int .i64 lo, .slice (some ⟨x.2, 0, none⟩) L L] (by rw [hlo, hL])
      rwa [hkk] at this
    have HTk := Lib.hid HTake
    have r0 := fun p : Reach => cell_reach (p := p) (a := ⟨w.heap.size + 1 + 1 + 1 + 1, 0, none⟩) hS.t.lt hS.t.cell
    have r1 := fun p : Reach => cell_reach (p := p) (a := ⟨w.heap.size + 1 + 1, 0, none⟩) hS.i.lt hS.i.cell
    have r2 := fun p : Reach => cell_reach (p := p) (a := ⟨w.heap.size + 1 + 1 + 1, 0, none⟩) hS.j.lt hS.j.cell
    have r3 := fun p : Reach => cell_reach (p := p) (a := ⟨w.heap.size, 0, none⟩) hS.p.lt (hS.p.cell 0)
    have r4 := fun p : Reach => cell_reach (p := p) (a := ⟨w.heap.size, 1, none⟩) hS.p.lt (hS.p.cell 1)
    have r5 := fun p : Reach => cell_reach (p := p) (a := ⟨w.heap.size, 2, none⟩) hS.p.lt (hS.p.cell 2)
    have r6 := fun p : Reach => cell_reach (p := p) (a := ⟨w.heap.size, 3, none⟩) hS.p.lt (hS.p.cell 3)
    have hBx : Box V Br 57 #[.int .i64 (x.1 : Int), .int .i64 lo, .slice (some ⟨x.2, 0, none⟩) L L] := by
      rw [← hlo, ← hL]; exact hBr
    have r7 := fun p : Reach => cell_reach (p := p) (a := ⟨Br, 0, none⟩) hBx.lt (hBx.cell 0)
    have r8 := fun p : Reach => cell_reach (p := p) (a := ⟨Br, 1, none⟩) hBx.lt (hBx.cell 1)
    have r9 := fun p : Reach => cell_reach (p := p) (a := ⟨Br, 2, none⟩) hBx.lt (hBx.cell 2)
    simp only [takeF] at r0
    simp at r3 r4 r5 r6 r7 r8 r9
    have hVs : W8.heap.size ≤ V.heap.size := by
      obtain ⟨r, hr⟩ := hr
      have := (Array.getElem?_eq_some_iff.1 hr).1
      omega
    have hown := hS.own
    have HOwn := Lib.hid hown
    have HG := Lib.hid hg7
    have hx1' := Lib.hid hx1
    have w3 : Fence.wide.fn 49 := trivial
    have w4 : Fence.wide.fn 46 := trivial
    clear hBr hBx hx1 hxr hS hg7 hin hjm hO hT hd1 hd2 hne hOl hch hkk HTake hlo hL hown
    gi_wp2_with fail
    refine wpIn_region_tail (C := fun V' => ∃ p : Reach, V' = reach V p) 6 (by kernel_rfl) (by kernel_rfl) rfl rfl ?_ (by kernel_rfl) (reach_of_below ⟨rfl, rfl, rfl, Nat.le_refl _, fun _ _ => rfl⟩) ?_
    · intro o ho
      simp only [List.mem_cons, List.not_mem_nil, or_false] at ho
      rcases ho with rfl | rfl | rfl | rfl | rfl | rfl | rfl <;> exact ⟨rfl, fun c h => by cases h⟩
    simp only [List.take_succ_cons, List.take_zero]
    repeat (quiet_step_in (fail))
    refine wpQuietIn_step (by quiet_asked_in) (fun K hK => ?_)
    go_simp
    refine ⟨.int .i64 kk, fun p => CallsIn.inRound l' (callsIn_wide.2 (calls_reach (HChs.out _ (below_reach _ _)))), hK _ ?_⟩
    clear hK K
    refine wpQuietIn_nil ?_
    rintro V' ⟨p, rfl⟩
    have hbp := below_reach V p
    clear r0 r1 r2 r3 r4 r5 r6 r7 r8 r9 HChs
    generalize reach V p = V' at hbp ⊢
    have HTk2 := Lib.hid (HTk.out V' hbp)
    have hsV := hbp.size
    unfold wpOpIn
    simp only [List.getElem?_toArray, List.getElem?_cons_succ, List.getElem?_cons_zero]
    rw [if_pos (by rfl)]
    go_simp
    refine (CallsIn.inRound l' (callsIn_wide.2 HTk2.out)).mono ?_
    rintro e V2 ⟨⟨u2, rfl⟩, i2, j2, O2, v2, hS2, hR2, hi2, hj2, hO2, hT2, hd21, hd22⟩
    have HKp2 := Lib.hid (keep_any gr A A' n c m c' most w s _ _ _ _ _ _ _ HPl.out Hs.out HA.out HB.out hn hm i2 j2 O2 v2 V2 hS2 hi2 hj2 hO2)
    have c0 := hS2.k.cell
    simp only [keepF] at c0
    have HR2 := Lib.hid hR2
    have HT2 := Lib.hid hT2
    have HD2 := Lib.hid (And.intro hd21 hd22)
    have w5 : Fence.wide.fn 47 := trivial
    clear hS2 hR2 hi2 hj2 hO2 hT2 hd21 hd22 HTk HTk2 hbp hsV
    gi_wp2_with fail
    refine (CallsIn.inRound l' (callsIn_wide.2 HKp2.out)).mono ?_
    rintro e V3 ⟨⟨u3, rfl⟩, i3, j3, O3, v3, hS3, hR3, hi3, hj3, hO3, hT3, hd3, hne3⟩
    have HAll := Lib.hid (And.intro hS3 (And.intro hR3 (And.intro hi3 (And.intro hj3 (And.intro hO3 (And.intro hT3 (And.intro hd3 hne3)))))))
    clear hS3 hR3 hi3 hj3 hO3 hT3 hd3 hne3 HKp2 c0
    gi_wp2
    obtain ⟨hS3, hR3, hi3, hj3, hO3, hT3, hd3, hne3⟩ := HAll.out
    have hR := HR2.out.next hR3
    have hg3 : v3.ownBlock ≠ some W7.heap.size := fun e => by
      rcases hR.own with e2 | ⟨r, e2, hr⟩
      · exact HG.out (e2.symm.trans e)
      · have : r = W7.heap.size := by rw [e2] at e; exact Option.some.inj e
        omega
    have hT2 := HT2.out
    have hD2 := HD2.out
    have hx1 := hx1'.out
    refine ⟨v3.ownBlock, ⟨i3, j3, O3, v3, rfl, hS3, hg3, hi3, hj3, hO3, by rw [List.length_append, List.length_singleton]; omega, by rw [List.length_append, List.length_singleton]; omega, by rw [List.length_append, List.length_singleton]; omega, hne3⟩, ⟨hR.own, hR.size, fun k hk hU => ?_⟩⟩
    rcases hU with (h | h) | h
    · exact hR.block k hk (by omega) (by omega) (by omega) (fun e => by have := HOwn.out _ e; omega)
    · subst h
      exact hR.block _ hk (by omega) (by omega) (by omega) HG.out
    · exact hR.block k hk (by omega) (by omega) (by omega) h.2
  case done =>
    rintro D xs go V hD hS2 ⟨i, j, O, v, rfl, hS, hg7, hin, hjm, hO, hT, -, -, hne⟩ hDef
    have hSe := grid_end gr (i := i) (j := j) (by rw [HLa.out]; exact hin) (by rw [HLb.out]; exact hjm) (by omega) hne
    rw [hSe, List.append_nil] at hO
    have hbl : v.ownBlock = none ∨ v.ownBlock ≠ some D := by
      cases hv : v.ownBlock with
      | none => exact .inl rfl
      | some k =>
        refine .inr fun e => ?_
        obtain ⟨cs, h1⟩ := own_cells hS.row (hv.trans e)
        rw [hDef] at h1; cases h1
    have hk := hS.row.kept (grownBy_putObj' V D (.deferred none)) hbl
    have hA := own_less (base' := w.heap.size) (by omega) hk
    have hAf := SArr.of_own ov_len hk
    have hbw := hS.bel.grown (grownBy_putObj' V D (.deferred none)) hS.bel.size (fun k e => by cases e; omega)
    have c0 := hS.l.cell
    obtain ⟨Ar, cr, rfl⟩ := hAf.form
    have HAll := Lib.hid (And.intro hA hbw)
    have HO := Lib.hid hO
    clear hA hAf hbw hk hbl hS hO hSe hT hne hS2 hg7 hin hjm
    gi_wp2
    refine ⟨by simp, .inl ⟨_, _, rfl, run_takeDeferred hDef, ?_⟩⟩
    rw [HO.out]
    exact ⟨_, results_tmp rfl _ _ _, _, _, _, rfl, HAll.out.1, HAll.out.2⟩

end Go.Proofs.Ytlloofmmblhnjaa
