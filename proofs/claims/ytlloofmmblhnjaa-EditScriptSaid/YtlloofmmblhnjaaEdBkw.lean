/-
  The program's iterator over rows backward.
-/
import Derived.Test.YtlloofmmblhnjaaPkAK
namespace Go.Proofs.Ytlloofmmblhnjaa
open Go.RowKit Go.Shelf Go.Lib
attribute [local go_sem] Oper.semAt_some

def markE (D : Nat) : Deferred := { target := .collected D, args := #[] }
/-- A function that has run loops over iterators one after another leaves. -/
theorem leaves_marksE {F : Fence} {n : Nat} {P : Program} {fn : Func} {tmps : Array Value} {R : Ending → World → Prop} (Ok : Nat → Prop) (Q : World → Prop)
    (hQ : ∀ w D, Ok D → Q w → w.heap[D]? = some (.deferred (some [])) → Q (w.putObj D (.deferred none)))
    (hend : ∀ w, Q w → LeavesInM F n P fn tmps R [] .returning w) :
    ∀ (Ds : List Nat) (w : World), Ds.Nodup → (∀ D ∈ Ds, Ok D ∧ w.heap[D]? = some (.deferred (some []))) → Q w → LeavesInM F n P fn tmps R (Ds.map markE) .returning w
  | [], w, _, _, h => hend w h
  | D :: Ds, w, hn, hD, h => by
    obtain ⟨h0, h1⟩ := hD D List.mem_cons_self
    obtain ⟨hn1, hn2⟩ := List.nodup_cons.1 hn
    refine ⟨by simp, .inl ⟨D, _, rfl, run_takeDeferred h1, ?_⟩⟩
    exact leaves_marksE Ok Q hQ hend Ds _ hn2 (fun E hE => ⟨(hD E (List.mem_cons_of_mem _ hE)).1, (World.putObj_heap_other (fun e => hn1 (by rw [← e]; exact hE))).trans (hD E (List.mem_cons_of_mem _ hE)).2⟩) (hQ w D h0 h h1)

theorem Soft.other {lo lo' : Nat} {g g' : Option Nat} {A B : World} (h : Soft lo' g' A B) (hl : lo ≤ lo') (hg : ∀ k, g = some k → k < lo') : Soft lo g A B :=
  ⟨h.os, h.tape, h.output, h.size, fun k o hk ho => h.block k o hk (by
    rcases ho with h1 | h1 | h1
    · exact .inl (by omega)
    · exact .inl (hg k h1)
    · exact .inr (.inr h1))⟩
/-- One round behind another one. -/
theorem RoundV.next {lo : Nat} {U : Nat → Prop} {g g' g'' : Option Nat} {A B C : World} (h : RoundV lo U g g' A B) (k : RoundV lo U g' g'' B C) : RoundV lo U g g'' A C := by
  refine ⟨?_, Nat.le_trans h.size k.size, fun i hi hU => (k.block i (Nat.lt_of_lt_of_le hi h.size) ?_).trans (h.block i hi hU)⟩
  · rcases k.own with e | ⟨r, e, hr⟩
    · rw [e]; exact h.own
    · exact .inr ⟨r, e, Nat.le_trans h.size hr⟩
  · rcases hU with h1 | ⟨h1, h2⟩
    · exact .inl h1
    · refine .inr ⟨h1, fun e => ?_⟩
      rcases h.own with e2 | ⟨r, e2, hr⟩
      · exact h2 (e2.symm.trans e)
      · rw [e2] at e
        cases e
        omega
theorem RoundV.soft {lo lo' : Nat} {U : Nat → Prop} {g g' : Option Nat} {A B C : World} (h : RoundV lo U g g' A B) (k : Soft lo' g' B C) (hl : A.heap.size ≤ lo') : RoundV lo U g g' A C :=
  ⟨h.own, Nat.le_trans h.size k.size, fun i hi hU => (k.keep (Nat.lt_of_lt_of_le hi h.size) (.inl (by omega))).trans (h.block i hi hU)⟩

theorem CollR.softly {a b : List Int} {T : Nat → Nat → Nat} {most : Int} {w W w1 : World} {Bx lo lo0 : Nat} {g0 : Option Nat} {v : Value} {col : List RowX} (h : CollR a b T most w Bx lo v col W) (h2 : W.grownBy w1 v.ownBlock) (hb1 : Boxed w1 Bx 74 v)
    (h0 : lo0 ≤ Bx) (hl : lo0 ≤ lo) (hg : ∀ k, g0 = some k → k < lo0) (v' : Value) : Soft lo0 g0 W (w1.setCell ⟨Bx, 0, none⟩ v') := by
  have hs2 : Soft lo0 g0 w1 (w1.setCell ⟨Bx, 0, none⟩ v') := Soft.of_grown (grownBy_setCell' w1 Bx v') h0 hb1 (fun e => by have := hg _ e; omega) (fun ⟨cs, z, e⟩ => by cases e)
  refine Soft.trans ?_ hs2
  cases hv : v.ownBlock with
  | none => rw [hv] at h2; exact Soft.of_below (below_of_grown h2)
  | some r =>
    rw [hv] at h2
    obtain ⟨cs, hc⟩ := own_cells h.row hv
    have hr := (h.row.lt r hv).1
    exact Soft.of_grown h2 (by omega) hc (fun e => by have := hg _ e; omega) (fun ⟨cs, z, e⟩ => by cases e)

theorem take_one {α : Type} {pre : List α} (x : α) : (pre ++ [x]).take 1 = if pre = [] then [x] else pre.take 1 := by
  cases pre <;> simp

set_option maxRecDepth 20000 in
set_option maxHeartbeats 25600000 in
theorem backward_seq {a b : List Int} {R : Nat} {T : Nat → Nat → Nat} {S : Nat → Nat → List OpI} (gr : Grid a b R T S) (n : Nat) (hn9 : 9 ≤ n) (A A' : Option Addr) (la ca lb cb : Nat) (most : Int) (n0 Bp : Nat) (w0 : World)
    (hA : Arr iv w0 n0 (.slice A la ca) a) (hB : Arr iv w0 n0 (.slice A' lb cb) b) (hla : la ≤ 100000) (hlb : lb ≤ 100000) (hmost : most ≤ 400000) (hen : dz (enZ a b) ≤ most) (hmo0 : 0 ≤ most) (hD : T 0 0 ≤ 255) (hDm : (T 0 0 : Int) ≤ most)
    (hn0 : n0 ≤ w0.heap.size) (hp : Box w0 Bp 52 #[.slice A la ca, .slice A' lb cb, .int .i64 (R : Int), .int .i64 most]) :
    SeqV Fence.wide n Try.prog 51 #[.pointer (some ⟨Bp, 0, none⟩)] (fun x : RowX => #[rowVal a b most x]) (fun k => k < n0 ∨ k = Bp)
      (fun pre x W => x.1 + 1 + pre.length = T 0 0 ∧ RowB W x.2 (rowL a b T most x.1)) (fun xs => xs.length = T 0 0) (T 0 0) w0 := by
  intro l J g0 W hW hJc hJa hY h0
  have hWs := hW.size
  have hpW := hp.below hW hp.lt
  have hBp : Bp < W.heap.size := Nat.lt_of_lt_of_le hp.lt hWs
  have hg0 : ∀ k, g0 = some k → k < W.heap.size := fun k e => by
    obtain ⟨o, h1, _⟩ := hJc _ _ _ h0 k e
    exact (Array.getElem?_eq_some_iff.1 h1).1
  obtain ⟨W2, hW2⟩ : ∃ W2, (W.alloc (.cells #[.func (.yield l) #[] #[]] 66)).alloc (.cells #[.slice none 0 0] 74) = W2 := ⟨_, rfl⟩
  have hs2 : W2.heap.size = W.heap.size + 2 := by rw [← hW2]; simp
  have kb2 : Below W.heap.size W W2 := by rw [← hW2]; exact ((Below.refl _ W).alloc (Nat.le_refl _) _).alloc (by simp) _
  have hby : Boxed W2 W.heap.size 66 (.func (.yield l) #[] #[]) := by rw [← hW2]; exact (Boxed.new W _ _).alloc _
  have hbk : Boxed W2 (W.heap.size + 1) 74 (.slice none 0 0) := by
    rw [← hW2]
    have := Boxed.new (W.alloc (.cells #[.func (.yield l) #[] #[]] 66)) 74 (.slice none 0 0)
    rwa [World.size_alloc] at this
  have hp2 := hpW.below kb2 hBp
  have kw2 : Below n0 w0 W2 := (hW.mono hn0).trans (kb2.mono (by omega))
  have HF : Hid (∀ V, Below W2.heap.size W2 V → Calls Try.prog 35 #[.agg #[.slice A la ca, .slice A' lb cb, .int .i64 (R : Int), .int .i64 most]] V fun e w' => ∃ B : Nat, e = .returned (.agg #[.int .i64 0, .int .i64 (enZ a b), .slice (some ⟨B, 0, none⟩) 1 1]) ∧ W2.heap.size ≤ B ∧ RowB w' B [plc a b T 0 (enZ a b)] ∧ Below W2.heap.size W2 w') := Lib.hid fun V hV => by
    have hbV : Below n0 w0 V := kw2.trans (hV.mono (by omega))
    refine (first_any A A' la ca lb cb R most a b V ((hA.below hbV).more (by have := hV.size; omega)) ((hB.below hbV).more (by have := hV.size; omega)) hla hlb).mono ?_
    rintro e w' ⟨B, he, hB, hr, hb⟩
    rw [first_plc gr] at hr
    exact ⟨B, he, Nat.le_trans hV.size hB, hr, below_next hV hb⟩
  have HKeep : Hid (∀ V, Below W2.heap.size W2 V → Below W2.heap.size W2 V ∧ V.cell? ⟨Bp, 0, none⟩ = some (.slice A la ca) ∧ V.cell? ⟨Bp, 1, none⟩ = some (.slice A' lb cb) ∧ V.cell? ⟨Bp, 2, none⟩ = some (.int .i64 (R : Int)) ∧ V.cell? ⟨Bp, 3, none⟩ = some (.int .i64 most)) := Lib.hid fun V hV => by
    have k1 := hp2.below hV hp2.lt
    have l0 := k1.cell 0
    have l1 := k1.cell 1
    have l2 := k1.cell 2
    have l3 := k1.cell 3
    simp at l0 l1 l2 l3
    exact ⟨hV, l0, l1, l2, l3⟩
  obtain ⟨en, hen'⟩ : ∃ x, enZ a b = x := ⟨_, rfl⟩
  rw [hen'] at HF
  have HEn := Lib.hid hen'
  have HDz := Lib.hid hen
  have HW2 := Lib.hid hW2
  have HA := Lib.hid hA
  have HB := Lib.hid hB
  have HY := Lib.hid hY
  have HJa := Lib.hid hJa
  have HJc := Lib.hid hJc
  have HJ0 := Lib.hid h0
  have HYB := Lib.hid hby
  have HKB := Lib.hid hbk
  have HP := Lib.hid hp2
  have HG0 := Lib.hid hg0
  clear hA hB hp hpW hY hJa hJc h0 hby hbk hp2 hW2 hen hen' hg0
  refine callsIn_of_wp_marks Try.func51 rfl trivial ?_ rfl
  simp only [Try.ntmps51, List.size_toArray, List.length_cons, List.length_nil, Nat.reduceAdd, Nat.reduceSub, Array.replicate_succ, Array.replicate_zero, List.push_toArray, List.append_toArray, List.nil_append, List.cons_append]
  gi_wp2_with fail
  rw [HW2.out]
  refine wpIn_wide.2 ?_
  go_region_held3 (fun v => Below W2.heap.size W2 v ∧ v.cell? ⟨Bp, 0, none⟩ = some (.slice A la ca) ∧ v.cell? ⟨Bp, 1, none⟩ = some (.slice A' lb cb) ∧ v.cell? ⟨Bp, 2, none⟩ = some (.int .i64 (R : Int)) ∧ v.cell? ⟨Bp, 3, none⟩ = some (.int .i64 most)) (first | exact HKeep.out _ (Below.refl _ _).drew | exact HKeep.out _ hbI | exact HKeep.out _ hbJ)
    (first
      | (go_at_call 35; (with_reducible refine (HF.out _ ?_).mono ?_); go_must (first | exact (Below.refl _ _).drew); rintro e wI ⟨BI, rfl, hBI, hrI, hbI⟩)
      | (go_at_call 34; (with_reducible refine (rows_any _ _ _ A A' la ca lb cb (R : Int) most 0 en BI 1 rfl rfl).mono ?_); rintro e wJ ⟨rfl, rfl⟩; have hbJ := below_next hbI (below_new (below_new (Below.refl _ wI) (.cells #[.slice A la ca, .slice A' lb cb, .int .i64 (R : Int), .int .i64 most] 52)) (.cells #[.int .i64 0, .int .i64 en, .slice (some ⟨BI, 0, none⟩) 1 1] 57))))
  have q0 := row_zero T HDz.out
  rw [HEn.out] at q0
  have hszI := hbI.size
  obtain ⟨wJ, hwJ⟩ : ∃ wJ, (wI.alloc (.cells #[.slice A la ca, .slice A' lb cb, .int .i64 (R : Int), .int .i64 most] 52)).alloc (.cells #[.int .i64 0, .int .i64 en, .slice (some ⟨BI, 0, none⟩) 1 1] 57) = wJ := ⟨_, rfl⟩
  have hpJ : Box wJ wI.heap.size 52 #[.slice A la ca, .slice A' lb cb, .int .i64 (R : Int), .int .i64 most] := by rw [← hwJ]; exact (Box.made wI _ _).alloc _
  have hfJ : Box wJ (wI.heap.size + 1) 57 (rowCells a b most (0, BI)) := by
    rw [← hwJ]
    have := Box.made (wI.alloc (.cells #[.slice A la ca, .slice A' lb cb, .int .i64 (R : Int), .int .i64 most] 52)) 57 #[.int .i64 0, .int .i64 en, .slice (some ⟨BI, 0, none⟩) 1 1]
    rw [World.size_alloc] at this
    have e : rowCells a b most (0, BI) = #[.int .i64 0, .int .i64 en, .slice (some ⟨BI, 0, none⟩) 1 1] := by simp [rowCells, q0.1, q0.2.1]
    rwa [e]
  have hrJ : RowB wJ BI (rowL a b T most ((0 : Nat) : Int)) := by
    have e : rowL a b T most ((0 : Nat) : Int) = [plc a b T 0 en] := q0.2.2
    rw [e, ← hwJ]
    exact (Box.alloc (Box.alloc hrI _) _)
  have hsJ : wJ.heap.size = wI.heap.size + 2 := by rw [← hwJ]; simp
  have hlI := hrI.lt
  rw [hwJ] at hbJ ⊢
  have kbJ : Below W.heap.size W wJ := kb2.trans (hbJ.mono (by omega))
  have kwJ : Below n0 w0 wJ := (hW.mono hn0).trans (kbJ.mono (by omega))
  have HSeq := Lib.hid (rows_seq gr (n - 1) (by omega) A A' la ca lb cb most 0 n0 wI.heap.size (wI.heap.size + 1) BI wJ (HA.out.below kwJ) (HB.out.below kwJ) hla hlb hmost HDz.out hmo0 (Nat.le_trans hn0 ((hW.trans (kbJ.mono hWs)).size)) hfJ hpJ hrJ)
  have hcnt : rowCnt (T 0 0) most 0 = T 0 0 := by unfold rowCnt; omega
  rw [hcnt] at HSeq
  have hC0 : CollR a b T most W (W.heap.size + 1) wJ.heap.size (.slice none 0 0) [] wJ := CollR.start ((hbJ.block _ (by omega)).trans HKB.out) kbJ (Nat.le_refl _)
  have HC0 := Lib.hid hC0
  have HY0 := Lib.hid (show Boxed wJ W.heap.size 66 (.func (.yield l) #[] #[]) from (hbJ.block _ (by omega)).trans HYB.out)
  have hS0 : Soft W.heap.size g0 W wJ := Soft.of_below kbJ
  have HS0 := Lib.hid hS0
  clear hpJ hfJ hrJ hbI hrI q0 HKeep HF hC0 hwJ hcnt hS0
  gi_wp2
  have hJs : W.heap.size + 2 ≤ wI.heap.size := by omega
  refine wpIn_rangeFunc_vsep rfl (by omega) (gf := 42) (lb := #[.pointer (some ⟨wI.heap.size + 1, 0, none⟩), .pointer (some ⟨wI.heap.size, 0, none⟩)]) rfl trivial (enters_of Try.func42 (by kernel_rfl) rfl) HSeq.out (Below.refl _ _) (fun _ => rfl)
    (fun g pre V => ∃ v, g = v.ownBlock ∧ CollR a b T most W (W.heap.size + 1) wJ.heap.size v (pre.take 1) V ∧ (∀ (i : Nat) (y : RowX), pre[i]? = some y → y.1 = i ∧ W.heap.size ≤ y.2) ∧ Boxed V W.heap.size 66 (.func (.yield l) #[] #[]) ∧ Soft W.heap.size g0 W V)
    (fun g s V h k e => by
      obtain ⟨v, rfl, hc, _⟩ := h
      exact hc.cells k e)
    (fun g s A B h ha => by
      obtain ⟨v, rfl, hc, hi, hy, hs⟩ := h
      exact ⟨v, rfl, hc.soft (by omega) (by omega) ha, hi, ha.block _ _ hy (.inl (by omega)), hs.trans (ha.other (by omega) (fun k e => by have := HG0.out k e; omega))⟩) none ⟨.slice none 0 0, rfl, HC0.out, fun i y hy => by simp at hy, HY0.out, HS0.out⟩
    (fun pre x a' V => ∃ B, V.heap[B]? = some (.cells (rowCells a b most x) 57 (0, 0)) ∧ (x.1 = 0 + pre.length ∧ W.heap.size ≤ x.2) ∧ RowB V x.2 (rowL a b T most x.1) ∧
      a' = { tmps := #[.func (.yield l) #[] #[], .pointer (some ⟨Bp, 0, none⟩), .pointer (some ⟨W.heap.size, 0, none⟩), .pointer (some ⟨W.heap.size + 1, 0, none⟩), .pointer (some ⟨B, 0, none⟩), undef, undef, undef, undef,
        .agg #[.slice A la ca, .slice A' lb cb, .int .i64 (R : Int), .int .i64 most], .agg #[.slice A la ca, .slice A' lb cb, .int .i64 (R : Int), .int .i64 most], .agg #[.int .i64 0, .int .i64 en, .slice (some ⟨BI, 0, none⟩) 1 1],
        .func (.func 42) #[] #[.pointer (some ⟨wI.heap.size + 1, 0, none⟩), .pointer (some ⟨wI.heap.size, 0, none⟩)],
        rowVal a b most x, undef, undef, undef, undef, undef, undef, undef, undef, undef, undef, undef, undef, undef, undef, undef, undef, undef, undef, undef, undef, undef, undef], defers := [] })
    (fun pre x a' V k o o' hx hk ho => by
      obtain ⟨B, h1, h2, h3, h4⟩ := hx
      exact ⟨B, (World.putObj_heap_other (fun e => by rw [e, hk] at h1; cases h1; cases ho)).trans h1, h2, h3.keep (World.putObj_heap_other (fun e => by
        unfold RowB Box at h3
        rw [e, hk] at h3; cases h3; cases ho)), h4⟩) ?assign ?body ?done
  case assign =>
    intro l' go pre x V K hi hV hN hK
    have HV := Lib.hid hV
    clear hV
    unfold rowVal rowCells
    gi_wp2
    have hb := (Below.refl V.heap.size V).alloc (Nat.le_refl _) (.cells (rowCells a b most x) 57)
    obtain ⟨v, hv, hc, hpi, hy, hs⟩ := hi
    refine hK _ _ (RoundV.of_below hb) ⟨v, hv, hc.soft (lo' := wJ.heap.size) (by omega) (by omega) (Soft.of_below hb), hpi, (hb.block _ hy.lt).trans hy, hs.trans (Soft.of_below hb)⟩ ⟨V.heap.size, World.alloc_heap_new V _, ⟨HV.out.1, by rcases HV.out.2.2 with e | e <;> omega⟩, HV.out.2.1.keep (hb.block _ HV.out.2.1.lt), rfl⟩
  case body =>
    rintro l' go pre x a' V hl hr ⟨v, rfl, hc, hpi, hy, hs⟩ ⟨B, hB, hx1, hxr, rfl⟩ hlt
    have hcb := hc.box.cell
    have d0 : V.cell? ⟨B, 0, none⟩ = some (.int .i64 (x.1 : Int)) := by simp [World.cell?, hB, rowCells]
    have d1 : V.cell? ⟨B, 1, none⟩ = some (.int .i64 (rowLo a b most x.1)) := by simp [World.cell?, hB, rowCells]
    have d2 : V.cell? ⟨B, 2, none⟩ = some (.slice (some ⟨x.2, 0, none⟩) (rowN a b most x.1) (rowN a b most x.1)) := by simp [World.cell?, hB, rowCells]
    have hws := hc.size
    have HC := Lib.hid hc
    have HX := Lib.hid hxr
    have HS := Lib.hid hs
    have HYy := Lib.hid hy
    have hpl : pre.length ≤ 254 := by omega
    have HPi : Hid (∀ (i : Nat) (y : RowX), (pre ++ [x])[i]? = some y → y.1 = i ∧ W.heap.size ≤ y.2) := Lib.hid (by
      intro i y hy
      by_cases hi : i < pre.length
      · rw [List.getElem?_append_left hi] at hy
        exact hpi i y hy
      · rw [List.getElem?_append_right (by omega)] at hy
        by_cases hi0 : i = pre.length
        · subst hi0
          simp at hy
          subst hy
          exact ⟨by omega, hx1.2⟩
        · rw [List.getElem?_eq_none (by simp; omega)] at hy
          cases hy)
    obtain ⟨c, hc1⟩ : ∃ c, x.1 = c := ⟨_, rfl⟩
    by_cases hpre : pre = []
    · have hx0 : x.1 = 0 := by rw [hx1.1, hpre]; rfl
      have HT : Hid ((pre ++ [x]).take 1 = pre.take 1 ++ [x]) := Lib.hid (by rw [hpre]; rfl)
      have hz : ((0 : Nat) : Int) = 0 := rfl
      rw [hx0] at d0 d1 d2
      have HX0 := Lib.hid hx0
      have hlz : (pre.take 1).length = 0 := by rw [hpre]; rfl
      obtain ⟨col, hcol⟩ : ∃ col, pre.take 1 = col := ⟨_, rfl⟩
      rw [hcol] at HC HT hlz
      have HLz := Lib.hid hlz
      clear hB hc hxr hpi hx1 hs hy hpre hx0 hc1 hcol hlz
      gi_wp2_with (gi_at_builtin; refine append_struct_inE (val := rv a b most) 74 57 (.agg #[.int .i64 0, .int .i64 0, .slice none 0 0]) 40 Try.underlying74 info_row rfl (by decide) (by decide) (rv_len a b most) (rv_one a b most) V rfl (.tmp 18) (.tmp 20) rfl wJ.heap.size v col rfl HC.out.row x #[.int .i64 0, .int .i64 (rowLo a b most ((0 : Nat) : Int)), .slice (some ⟨x.2, 0, none⟩) (rowN a b most ((0 : Nat) : Int)) (rowN a b most ((0 : Nat) : Int))] (by simp [rv, HX0.out]) V.heap.size rfl rfl (by rw [HLz.out]; omega) (by omega) ?_; intro v' w1 hown' hgrow hwh; obtain ⟨hb1, hC, hRd⟩ := HC.out.stored (U := fun k => k < n0 ∨ k = wI.heap.size ∨ k = BI) (lo' := wJ.heap.size) (by omega) (by omega) (by omega) HX.out hown' hgrow hwh (fun k hk => have hk' : k < n0 ∨ k = wI.heap.size ∨ k = BI := hk; ⟨by omega, .inl (by omega)⟩); have hc1 := hb1.cell; have hf1 := hb1.frozen; have hSf := HC.out.softly (lo0 := W.heap.size) hgrow hb1 (by omega) (by omega) HG0.out v'; have hyy := (HYy.out.kept hgrow (HYy.out.not_row (by decide) HC.out.row)).other (B' := W.heap.size + 1) (by omega) v'; rw [List.length_append, List.length_singleton] at hown'; obtain ⟨g', cap, rfl⟩ := ownsRow_succ hown'; have HC2 := Lib.hid hC; have HRd := Lib.hid hRd; have HSf := Lib.hid hSf; have HYz := Lib.hid hyy; clear hown' hgrow hwh hC hRd hb1 hSf hyy)
      exact ⟨_, ⟨_, rfl, (by rw [HT.out]; exact HC2.out), HPi.out, HYz.out, HS.out.trans HSf.out⟩, HRd.out⟩
    · have hp1 : 1 ≤ pre.length := List.length_pos_iff.2 hpre
      have HT : Hid ((pre ++ [x]).take 1 = pre.take 1) := Lib.hid (by rw [take_one, if_neg hpre])
      rw [hc1] at d0 d1 d2
      have hcb1 : 1 ≤ c ∧ c ≤ 254 := by omega
      have m1 : (c : Int).tmod 256 = (c : Int) := Int.tmod_eq_of_lt (by omega) (by omega)
      have m2 : (c : Int) % 256 = (c : Int) := Int.emod_eq_of_lt (by omega) (by omega)
      have wc : IntKind.i64.wrap (c : Int) = (c : Int) := wraps_i64 _ (by omega) (by omega)
      have t1 : ((c : Int) == 0) = false := neE (by omega)
      clear hB hc hxr hpi hx1 hs hy hpre hc1
      gi_wp2
      exact ⟨_, ⟨_, rfl, (by rw [HT.out]; exact HC.out), HPi.out, HYy.out, HS.out⟩, .inl rfl, Nat.le_refl _, fun _ _ _ => rfl⟩
  case done =>
    rintro D1 xs go V hD1 hSx ⟨v, rfl, hc, hpi, hy, hs⟩ hDef1
    have hcb := hc.box.cell
    obtain ⟨col, hcol⟩ : ∃ col, xs.take 1 = col := ⟨_, rfl⟩
    rw [hcol] at hc
    have hA0 := SArr.of_own (rv_len a b most) hc.row
    obtain ⟨Ak, ck, rfl⟩ := hA0.form
    obtain ⟨mk, hmk⟩ : ∃ mk, col.length = mk := ⟨_, rfl⟩
    rw [hmk] at hc hA0 hcb
    have hmk1 : mk = min 1 (T 0 0) := by rw [← hmk, ← hcol, List.length_take, hSx]
    have hcf : ∀ (i : Nat) (y : RowX), col[i]? = some y → y.1 = i ∧ W.heap.size ≤ y.2 := fun i y hy => hpi i y (by
      rw [← hcol] at hy
      rw [List.getElem?_take] at hy
      split at hy
      · exact hy
      · cases hy)
    have hAk : ∀ p, Ak = some p → W.heap.size + 2 ≤ p.block ∧ p.block < V.heap.size := fun p e => by
      subst e
      have := hc.row.lt p.block (by simp [Value.ownBlock])
      omega
    obtain ⟨W6, hW6⟩ : ∃ W6, V.alloc (.cells #[.slice Ak mk ck] 74) = W6 := ⟨_, rfl⟩
    have hs6 : W6.heap.size = V.heap.size + 1 := by rw [← hW6]; simp
    have kb6 : Below V.heap.size V W6 := by rw [← hW6]; exact (Below.refl _ V).alloc (Nat.le_refl _) _
    have hb6 : Boxed W6 V.heap.size 74 (.slice Ak mk ck) := by rw [← hW6]; exact Boxed.new V _ _
    have hy6 : Boxed W6 W.heap.size 66 (.func (.yield l) #[] #[]) := (kb6.block _ hy.lt).trans hy
    have hS6 : Soft W.heap.size g0 W W6 := hs.trans (Soft.of_below kb6)
    have hbW6 : Below W.heap.size W W6 := hS6.below (Below.refl _ W) (Nat.le_refl _) (Nat.le_refl _)
    have hD16 : W6.heap[D1]? = some (.deferred (some [])) := (kb6.block D1 (Array.getElem?_eq_some_iff.1 hDef1).1).trans hDef1
    have hlV : W.heap.size + 2 ≤ V.heap.size := by have := hc.size; omega
    have hD1V : D1 < V.heap.size := (Array.getElem?_eq_some_iff.1 hDef1).1
    have hr6 : ∀ y ∈ col, RowB W6 y.2 (rowL a b T most y.1) := fun y hy => (hc.rows y hy).keep (kb6.block _ (hc.rows y hy).lt)
    have HSeq2 := Lib.hid (back_seq a b most (n - 1) (by omega) Ak mk ck V.heap.size col W6 hb6 (hA0.up kb6) (by omega))
    have HMk := Lib.hid hmk1
    have hmle : mk ≤ 1 := by omega
    have HW6 := Lib.hid hW6
    have HJ6 := Lib.hid (HJa.out _ _ _ _ HJ0.out hS6)
    have HB6 := Lib.hid hb6
    have HY6 := Lib.hid hy6
    have HD16 := Lib.hid hD16
    have HR6 := Lib.hid hr6
    have HCf := Lib.hid hcf
    have HAk := Lib.hid hAk
    have HBW6 := Lib.hid hbW6
    have w1 : Fence.wide.fn 52 := trivial
    have hn1 : 1 ≤ n := by omega
    clear hc hpi hy hs hSx hDef1 hA0 hW6 kb6 hb6 hy6 hS6 hD16 hr6 hcf hAk hbW6 HSeq HC0 HY0 HS0 hcol hmk hmk1
    gi_wp2_with fail
    refine (callsIn_wide.2 (backward_any Ak mk ck V)).mono ?_
    rintro e V1 ⟨rfl, rfl⟩
    rw [HW6.out]
    gi_wp2
    refine wpIn_rangeFunc_vsep rfl (by omega) (gf := 54) (lb := #[.pointer (some ⟨V.heap.size, 0, none⟩)]) rfl trivial (enters_of Try.func54 (by kernel_rfl) rfl) HSeq2.out (Below.refl _ _) (fun _ => rfl)
      (fun g pre V' => ((pre.length = 0 ∧ J g [] V') ∨ (pre.length = 1 ∧ ∃ ys, ys.length = T 0 0 ∧ J g ys V')) ∧ RoundV W.heap.size (fun k => k < n0 ∨ k = Bp) g0 g W6 V')
      (fun g s V' h k e => by
        rcases h.1 with ⟨_, h1⟩ | ⟨_, ys, _, h1⟩
        · exact HJc.out _ _ _ h1 k e
        · exact HJc.out _ _ _ h1 k e)
      (fun g s A' B' h ha => by
        have ha' : Soft W.heap.size g A' B' := ha.mono (by omega)
        refine ⟨?_, h.2.soft ha (Nat.le_refl _)⟩
        rcases h.1 with ⟨h0, h1⟩ | ⟨h0, ys, h2, h1⟩
        · exact .inl ⟨h0, HJa.out _ _ _ _ h1 ha'⟩
        · exact .inr ⟨h0, ys, h2, HJa.out _ _ _ _ h1 ha'⟩) g0 ⟨.inl ⟨rfl, HJ6.out⟩, .inl rfl, Nat.le_refl _, fun _ _ _ => rfl⟩
      (fun pre x a' V' => ∃ B, V'.heap[B]? = some (.cells (rowCells a b most x.2) 57 (0, 0)) ∧ (x.1 + 1 + pre.length = mk ∧ col[x.1]? = some x.2) ∧
        a' = { tmps := #[.func (.yield l) #[] #[], .pointer (some ⟨Bp, 0, none⟩), .pointer (some ⟨W.heap.size, 0, none⟩), .pointer (some ⟨W.heap.size + 1, 0, none⟩), undef, undef, .pointer (some ⟨B, 0, none⟩), undef, undef,
          .agg #[.slice A la ca, .slice A' lb cb, .int .i64 (R : Int), .int .i64 most], .agg #[.slice A la ca, .slice A' lb cb, .int .i64 (R : Int), .int .i64 most], .agg #[.int .i64 0, .int .i64 en, .slice (some ⟨BI, 0, none⟩) 1 1],
          .func (.func 42) #[] #[.pointer (some ⟨wI.heap.size + 1, 0, none⟩), .pointer (some ⟨wI.heap.size, 0, none⟩)],
          undef, undef, undef, undef, undef, undef, undef, undef, undef, .slice Ak mk ck, .func (.func 54) #[] #[.pointer (some ⟨V.heap.size, 0, none⟩)], .int .i64 (x.1 : Int), rowVal a b most x.2, undef, undef, undef, undef, undef, undef, undef, undef, undef, undef], defers := [] })
      (fun pre x a' V' k o o' hx hk ho => by
        obtain ⟨B, h1, h2, h3⟩ := hx
        exact ⟨B, (World.putObj_heap_other (fun e => by rw [e, hk] at h1; cases h1; cases ho)).trans h1, h2, h3⟩) ?assign2 ?body2 ?done2
    case assign2 =>
      intro l' go pre x V' K hi hV hN hK
      have HV := Lib.hid hV
      clear hV
      unfold rowVal rowCells
      gi_wp2
      have hb := (Below.refl V'.heap.size V').alloc (Nat.le_refl _) (.cells (rowCells a b most x.2) 57)
      refine hK _ _ (RoundV.of_below hb) ⟨?_, hi.2.soft (Soft.of_below hb) (Nat.le_refl _)⟩ ⟨V'.heap.size, World.alloc_heap_new V' _, HV.out, rfl⟩
      rcases hi.1 with ⟨h0, h1⟩ | ⟨h0, ys, h2, h1⟩
      · exact .inl ⟨h0, HJa.out _ _ _ _ h1 (Soft.of_below hb)⟩
      · exact .inr ⟨h0, ys, h2, HJa.out _ _ _ _ h1 (Soft.of_below hb)⟩
    case body2 =>
      rintro l2 go pre x a' V' hl2 ⟨r2, hr2⟩ ⟨hJ2, hR2⟩ ⟨B, hB, ⟨hx1, hx2⟩, rfl⟩ hlt
      have hpre0 : pre.length = 0 := by omega
      have hJ0' : J go [] V' := by
        rcases hJ2 with ⟨_, h1⟩ | ⟨h1, _⟩
        · exact h1
        · omega
      have hx10 : x.1 = 0 := by omega
      obtain ⟨hxc1, hxc2⟩ := HCf.out x.1 x.2 hx2
      have hxz : x.2.1 = 0 := by omega
      have hgo : ∀ k, W.heap.size ≤ k → k < W6.heap.size → go ≠ some k := by
        intro k hk1 hk2 e
        rcases hR2.own with e2 | ⟨r, e2, hr⟩
        · have := HG0.out k (e2.symm.trans e); omega
        · have : r = k := by rw [e2] at e; exact Option.some.inj e
          omega
      have hgl : ∀ k, go = some k → k < V'.heap.size := fun k e => by
        obtain ⟨o, h1, _⟩ := HJc.out _ _ _ hJ0' k e
        exact (Array.getElem?_eq_some_iff.1 h1).1
      have hk6 : ∀ k, k < W6.heap.size → ((k < n0 ∨ k = Bp) ∨ W.heap.size ≤ k) → V'.heap[k]? = W6.heap[k]? := fun k hk h => hR2.block k hk (by
        rcases h with h | h
        · exact .inl h
        · exact .inr ⟨h, fun e => by have := HG0.out k e; omega⟩)
      have hs6' : W6.heap.size ≤ V'.heap.size := hR2.size
      have hold : ∀ k, k < n0 → V'.heap[k]? = w0.heap[k]? := fun k hk => (hk6 k (by omega) (.inl (.inl hk))).trans ((HBW6.out.block k (by omega)).trans (hW.block k (by omega)))
      have hpV : Box V' Bp 52 #[.slice A la ca, .slice A' lb cb, .int .i64 (R : Int), .int .i64 most] :=
        (hk6 Bp (by omega) (.inl (.inr rfl))).trans ((HBW6.out.block Bp hBp).trans ((kb2.block Bp hBp).symm.trans HP.out))
      have hrx := HR6.out x.2 (List.mem_of_getElem? hx2)
      have hrV := hrx.keep (hk6 x.2.2 hrx.lt (.inr hxc2))
      rw [hxz] at hrV
      have hxl := hrV.lt
      obtain ⟨lo0, hlo0⟩ : ∃ z, rowLo a b most ((0 : Nat) : Int) = z := ⟨_, rfl⟩
      obtain ⟨L0, hL0⟩ : ∃ z, rowN a b most ((0 : Nat) : Int) = z := ⟨_, rfl⟩
      have HBk := Lib.hid (block_any gr A A' la ca lb cb most x.2.2 V' ((HA.out.keep fun p hp => by simp [World.cell?, hold p.block hp]).more (by omega)) ((HB.out.keep fun p hp => by simp [World.cell?, hold p.block hp]).more (by omega)) hla hlb hmost HDz.out hmo0 hD hrV
        #[.int .i64 0, .int .i64 lo0, .slice (some ⟨x.2.2, 0, none⟩) L0 L0] (by simp [rowCells, ← hlo0, ← hL0]))
      have d0 : V'.cell? ⟨B, 0, none⟩ = some (.int .i64 0) := by simp [World.cell?, hB, rowCells, hxz]
      have d1 : V'.cell? ⟨B, 1, none⟩ = some (.int .i64 lo0) := by rw [← hlo0]; simp [World.cell?, hB, rowCells, hxz]
      have d2 : V'.cell? ⟨B, 2, none⟩ = some (.slice (some ⟨x.2.2, 0, none⟩) L0 L0) := by rw [← hL0]; simp [World.cell?, hB, rowCells, hxz]
      have e0 := hpV.cell 0
      have e1 := hpV.cell 1
      have e2 := hpV.cell 2
      have e3 := hpV.cell 3
      simp at e0 e1 e2 e3
      have hyV : Boxed V' W.heap.size 66 (.func (.yield l) #[] #[]) := (hk6 W.heap.size (by omega) (.inr (Nat.le_refl _))).trans HY6.out
      have HYV := Lib.hid hyV
      have HJ0v := Lib.hid hJ0'
      have HR2 := Lib.hid hR2
      have HGo := Lib.hid hgo
      have HGl := Lib.hid hgl
      have HK6 := Lib.hid hk6
      have HPre := Lib.hid hpre0
      have HXc := Lib.hid hxc2
      have HL2 := Lib.hid hr2
      have hl2V : l2 < V'.heap.size := (Array.getElem?_eq_some_iff.1 hr2).1
      have w2 : Fence.wide.fn 53 := trivial
      have w3 : Fence.wide.fn 52 := trivial
      have hn2 : 1 ≤ n - 1 - 1 := by omega
      have hx6 : x.2.2 < W6.heap.size := hrx.lt
      clear hB hx1 hx2 hJ2 hR2 hpre0 hx10 hxc1 hxc2 hxz hgo hgl hk6 hold hpV hrx hrV hlo0 hL0 hyV hJ0' hr2
      gi_wp2_with fail
      refine (CallsIn.inRound l2 (callsIn_wide.2 HBk.out)).mono ?_
      rintro e V9 ⟨A3, l3, c3, ys, rfl, hA3, hlen3, hys, hAr3, hrow3, kb3⟩
      have HA3 := Lib.hid hA3
      have HLen3 := Lib.hid hlen3
      have HYs := Lib.hid hys
      have HAr3 := Lib.hid hAr3
      have HRow3 := Lib.hid hrow3
      have HKb3 := Lib.hid kb3
      clear hA3 hlen3 hys hAr3 hrow3 kb3 HBk
      gi_wp2_with fail
      refine (CallsIn.inRound l2 (callsIn_wide.2 (backward_any A3 l3 c3 V9))).mono ?_
      rintro e V10 ⟨rfl, rfl⟩
      obtain ⟨W9, hW9⟩ : ∃ W9, V9.alloc (.cells #[.slice A3 l3 c3] 74) = W9 := ⟨_, rfl⟩
      have hs9 : W9.heap.size = V9.heap.size + 1 := by rw [← hW9]; simp
      have kb9 : Below V9.heap.size V9 W9 := by rw [← hW9]; exact (Below.refl _ V9).alloc (Nat.le_refl _) _
      have hb9 : Boxed W9 V9.heap.size 74 (.slice A3 l3 c3) := by rw [← hW9]; exact Boxed.new V9 _ _
      rw [hW9]
      have kV9 : Below V'.heap.size V' W9 := below_next HKb3.out kb9
      have hVV9 := HKb3.out.size
      have hr9 : W9.heap[l2]? = some (.loop r2) := (kV9.block l2 hl2V).trans HL2.out
      have hlen : l3 = T 0 0 := by
        have := HA3.out.len
        have := HLen3.out
        unfold rowCnt at this
        omega
      have HSeq3 := Lib.hid (SeqV.inRound l2 (back_seq a b most (n - 1 - 1 - 1) (by omega) A3 l3 c3 V9.heap.size ys W9 hb9 (HA3.out.up kb9) (by omega)))
      have hJ9 : J go [] W9 := HJa.out _ _ _ _ HJ0v.out (Soft.of_below kV9)
      have hy9 : Boxed W9 W.heap.size 66 (.func (.yield l) #[] #[]) := (kV9.block _ (by omega)).trans HYV.out
      have hrow9 : ∀ y ∈ ys, RowB W9 y.2 (rowL a b T most y.1) := fun y hy => (HRow3.out y hy).keep (kb9.block _ (HRow3.out y hy).lt)
      have HKV9 := Lib.hid kV9
      have HJ9 := Lib.hid hJ9
      have HY9 := Lib.hid hy9
      have HRow9 := Lib.hid hrow9
      have HLen := Lib.hid hlen
      have HR9 := Lib.hid hr9
      have hl3 : l3 ≤ 255 := by omega
      clear hW9 kb9 hb9 kV9 hJ9 hy9 hrow9 hlen hr9 d0 d1 d2 e0 e1 e2 e3
      gi_wp2
      refine wpIn_rangeFunc_vsepN (l₀ := l2) (r₀ := r2) rfl HR9.out (by omega) (gf := 54) (lb := #[.pointer (some ⟨V9.heap.size, 0, none⟩)]) rfl trivial (enters_of Try.func54 (by kernel_rfl) rfl) HSeq3.out (Below.refl _ _) (fun _ => rfl)
        (fun g pre3 V'' => J g (pre3.map Prod.snd) V'' ∧ RoundV W.heap.size (fun k => k < n0 ∨ k = Bp) go g W9 V'')
        (fun g s V'' h k e => HJc.out _ _ _ h.1 k e)
        (fun g s A' B' h ha => ⟨HJa.out _ _ _ _ h.1 (ha.mono (by omega)), h.2.soft ha (Nat.le_refl _)⟩) go ⟨HJ9.out, .inl rfl, Nat.le_refl _, fun _ _ _ => rfl⟩
        (fun pre3 y a' V'' => ∃ B3, V''.heap[B3]? = some (.cells (rowCells a b most y.2) 57 (0, 0)) ∧ (y.1 + 1 + pre3.length = l3 ∧ ys[y.1]? = some y.2) ∧
          a' = { tmps := #[.func (.yield l) #[] #[], .pointer (some ⟨Bp, 0, none⟩), .pointer (some ⟨W.heap.size, 0, none⟩), .pointer (some ⟨W.heap.size + 1, 0, none⟩), undef, undef, .pointer (some ⟨B, 0, none⟩), undef, .pointer (some ⟨B3, 0, none⟩),
            .agg #[.slice A la ca, .slice A' lb cb, .int .i64 (R : Int), .int .i64 most], .agg #[.slice A la ca, .slice A' lb cb, .int .i64 (R : Int), .int .i64 most], .agg #[.int .i64 0, .int .i64 en, .slice (some ⟨BI, 0, none⟩) 1 1],
            .func (.func 42) #[] #[.pointer (some ⟨wI.heap.size + 1, 0, none⟩), .pointer (some ⟨wI.heap.size, 0, none⟩)],
            undef, undef, undef, undef, undef, undef, undef, undef, undef, .slice Ak mk ck, .func (.func 54) #[] #[.pointer (some ⟨V.heap.size, 0, none⟩)], .int .i64 (x.1 : Int), rowVal a b most x.2,
            .agg #[.slice A la ca, .slice A' lb cb, .int .i64 (R : Int), .int .i64 most], .agg #[.int .i64 0, .int .i64 lo0, .slice (some ⟨x.2.2, 0, none⟩) L0 L0], .slice A3 l3 c3, .func (.func 54) #[] #[.pointer (some ⟨V9.heap.size, 0, none⟩)],
            .int .i64 (y.1 : Int), rowVal a b most y.2, undef, undef, undef, undef], defers := [] })
        (fun pre3 y a' V'' k o o' hx hk ho => by
          obtain ⟨B3, h1, h2, h3⟩ := hx
          exact ⟨B3, (World.putObj_heap_other (fun e => by rw [e, hk] at h1; cases h1; cases ho)).trans h1, h2, h3⟩) ?assign3 ?body3 ?done3
      case assign3 =>
        intro l' g3 pre3 y V'' K hi hV hN hK
        have HV := Lib.hid hV
        clear hV
        unfold rowVal rowCells
        gi_wp2
        have hb := (Below.refl V''.heap.size V'').alloc (Nat.le_refl _) (.cells (rowCells a b most y.2) 57)
        exact hK _ _ (RoundV.of_below hb) ⟨HJa.out _ _ _ _ hi.1 (Soft.of_below hb), hi.2.soft (Soft.of_below hb) (Nat.le_refl _)⟩ ⟨V''.heap.size, World.alloc_heap_new V'' _, HV.out, rfl⟩
      case body3 =>
        rintro l' g3 pre3 y a' V'' hl' hr' ⟨hJ3, hR3⟩ ⟨B3, hB3, ⟨hy1, hy2⟩, rfl⟩ hlt3
        have hgoL : ∀ k, W.heap.size ≤ k → k < W9.heap.size → go ≠ some k → g3 ≠ some k := by
          intro k hk1 hk2 hg e
          rcases hR3.own with e2 | ⟨r, e2, hr⟩
          · exact hg (e2.symm.trans e)
          · have : r = k := by rw [e2] at e; exact Option.some.inj e
            omega
        have hk9 : ∀ k, k < W9.heap.size → W.heap.size ≤ k → go ≠ some k → V''.heap[k]? = W9.heap[k]? := fun k hk h1 h2 => hR3.block k hk (.inr ⟨h1, h2⟩)
        have hyB : Boxed V'' W.heap.size 66 (.func (.yield l) #[] #[]) := (hk9 W.heap.size (by omega) (Nat.le_refl _) (HGo.out W.heap.size (Nat.le_refl _) (by omega))).trans HY9.out
        obtain ⟨hyc1, hyc2⟩ := HYs.out y.1 y.2 hy2
        have hrow := HRow9.out y.2 (List.mem_of_getElem? hy2)
        have hgy : go ≠ some y.2.2 ∧ W.heap.size ≤ y.2.2 := by
          rcases hyc2 with h | h
          · rw [h]; exact ⟨HGo.out _ HXc.out hx6, HXc.out⟩
          · exact ⟨fun e => by have := HGl.out _ e; omega, by omega⟩
        have hrowV := hrow.keep (hk9 y.2.2 hrow.lt hgy.2 hgy.1)
        have c0 := hyB.cell
        have d0 : V''.cell? ⟨B3, 0, none⟩ = some (.int .i64 (y.2.1 : Int)) := by simp [World.cell?, hB3, rowCells]
        have d1 : V''.cell? ⟨B3, 1, none⟩ = some (.int .i64 (rowLo a b most y.2.1)) := by simp [World.cell?, hB3, rowCells]
        have d2 : V''.cell? ⟨B3, 2, none⟩ = some (.slice (some ⟨y.2.2, 0, none⟩) (rowN a b most y.2.1) (rowN a b most y.2.1)) := by simp [World.cell?, hB3, rowCells]
        obtain ⟨fn, tmps, assign, body, hy, hRn⟩ := HY.out g3 (pre3.map Prod.snd) y.2 V'' hJ3 ⟨by rw [List.length_map, hyc1, ← HLen.out]; exact hy1, hrowV⟩ (by rw [List.length_map, ← HLen.out]; exact hlt3)
        dsimp only [rowVal, rowCells] at hy
        have HR3 := Lib.hid hR3
        have HGoL := Lib.hid hgoL
        have hn3 : 1 ≤ n - 1 - 1 - 1 - 1 := by omega
        have hn4 : 1 ≤ n - 1 - 1 - 1 - 1 - 1 := by omega
        clear hB3 hy1 hy2 hyc1 hyc2 hrow hgy hrowV hk9 hyB hR3 hgoL hJ3
        gi_wp2
        refine (round_anyE hRn).mono ?_
        rintro e V3 ⟨rfl, g4, hJ4, hR4⟩
        have HJ4 := Lib.hid hJ4
        have HR4 := Lib.hid hR4
        clear hJ4 hR4 hRn hy d0 d1 d2 c0
        gi_wp2
        refine ⟨g4, ⟨by rw [List.map_append]; exact HJ4.out, HR3.out.next HR4.out⟩, ⟨HR4.out.own, HR4.out.size, fun k hk hU => HR4.out.block k hk (.inr ?_)⟩⟩
        rcases hU with (h | ⟨p, h1, h2⟩) | h
        · subst h
          exact ⟨by omega, HGoL.out _ (by omega) (by omega) (fun e => by have := HGl.out _ e; omega)⟩
        · have h3 := HAr3.out p h1
          by_cases hk9 : k < W9.heap.size
          · subst h2
            exact ⟨by omega, HGoL.out _ (by omega) hk9 (fun e => by have := HGl.out _ e; omega)⟩
          · exfalso
            subst h1
            obtain ⟨b9, o9, e9, hb9, _⟩ := HA3.out.some_ (rv_len a b most) (by decide) (by omega)
            cases e9
            have h2' : k = b9 := h2
            omega
        · exact ⟨by omega, h.2⟩
      case done3 =>
        rintro ys3 g3 V'' hS3 ⟨hJ3, hR3⟩
        have hRall : RoundV W.heap.size (fun k => k < n0 ∨ k = Bp) go g3 V' V'' := (RoundV.of_below HKV9.out).next hR3
        refine ⟨g3, ⟨.inr ⟨by rw [List.length_append, List.length_singleton, HPre.out], ys3.map Prod.snd, by rw [List.length_map, hS3, HLen.out], hJ3⟩, HR2.out.next hRall⟩, ⟨hRall.own, hRall.size, fun k hk hU => hRall.block k hk (.inr ?_)⟩⟩
        rcases hU with (h | ⟨p, h1, h2⟩) | h
        · subst h
          exact ⟨by omega, HGo.out _ (by omega) (by omega)⟩
        · have h3 := HAk.out p h1
          subst h2
          exact ⟨by omega, HGo.out _ (by omega) (by omega)⟩
        · exact ⟨by omega, h.2⟩
    case done2 =>
      rintro D2 xs2 go V' hD2 hS2 ⟨hJ2, hR2⟩ hDef2
      have hg0D : g0 ≠ some D1 := fun e => by have := HG0.out _ e; omega
      have hD1' : V'.heap[D1]? = some (.deferred (some [])) := hR2.cells (.inr ⟨by omega, hg0D⟩) HD16.out
      have hfin : ∃ ys, ys.length = T 0 0 ∧ ∃ g, J g ys V' := by
        rcases hJ2 with ⟨h0, h1⟩ | ⟨h0, ys, h2, h1⟩
        · exact ⟨[], by rw [List.length_nil]; have := HMk.out; omega, go, h1⟩
        · exact ⟨ys, h2, go, h1⟩
      have HFin := Lib.hid hfin
      clear hJ2 hR2 hfin hS2
      gi_wp2
      refine leaves_marksE (fun D => W.heap.size ≤ D) (fun w' => ∃ ys, ys.length = T 0 0 ∧ ∃ g, J g ys w') (fun w' D hD hx h => ?_) (fun w' hx => ?_) [D2, D1] V' (by simp; omega) (fun D hD => by
        simp only [List.mem_cons, List.not_mem_nil, or_false] at hD
        rcases hD with rfl | rfl
        · exact ⟨by omega, hDef2⟩
        · exact ⟨by omega, hD1'⟩) HFin.out
      · obtain ⟨ys, h1, g', h2⟩ := hx
        refine ⟨ys, h1, g', HJa.out _ _ _ _ h2 (Soft.putObj _ hD h rfl fun e => ?_)⟩
        obtain ⟨o, h3, h4⟩ := HJc.out _ _ _ h2 D e
        rw [h] at h3; cases h3; cases h4
      · obtain ⟨ys, h1, g', h2⟩ := hx
        exact ⟨_, results_none rfl _ _ _, ⟨_, rfl⟩, ys, h1, g', h2⟩

end Go.Proofs.Ytlloofmmblhnjaa
