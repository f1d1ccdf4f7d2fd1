/-
  The program's sortMarks.
  The program's decomposed, encode, Decompose, Marks.
-/
import Derived.Test.YtpgaebdaakllaaaDoorParts
import Derived.Test.YtpgaebdaakllaaaDoorStable
namespace Go.Proofs.YtpgaebdaakllaaaDoor
open Go.RowKit

/-! Slice expressions with two bounds, and empty ones. -/
theorem slice_mid {P : Program} (t : TypeId) (ht : P.underlying t = some (.slice (P.elem t))) (hs : ∀ W, (sizeOf (P.elem t)).run P W = .ok 1 W) (b off n l h c : Nat) (hlh : l < h) (hc : h ≤ c) (W : World) :
    (Instr.sliceAt t (.slice (some ⟨b, off, none⟩) n c) (some (.int .i64 (l : Int))) (some (.int .i64 (h : Int))) none).run P W = .ok (.slice (some ⟨b, off + l, none⟩) (h - l) (c - l)) W := by
  rw [run_sliceAt_slice W _ _ _ _ _ ht, run_slice_lh W _ _ n c ht .i64 .i64 (l : Int) (h : Int) (by omega) (by omega) (by omega), hs]
  simp only [Result.andThen, sliced, Int.toNat_natCast, Nat.mul_one]
  rw [if_neg (by omega), Option.map_some, add_plain]
theorem slice_same {P : Program} (t : TypeId) (ht : P.underlying t = some (.slice (P.elem t))) (hs : ∀ W, (sizeOf (P.elem t)).run P W = .ok 1 W) (A : Option Addr) (n l c : Nat) (hc : l ≤ c) :
    ∃ A' c', ∀ W, (Instr.sliceAt t (.slice A n c) (some (.int .i64 (l : Int))) (some (.int .i64 (l : Int))) none).run P W = .ok (.slice A' 0 c') W := by
  refine ⟨if c = l then A else A.map (·.add l), c - l, fun W => ?_⟩
  rw [run_sliceAt_slice W _ _ _ _ _ ht, run_slice_lh W _ _ n c ht .i64 .i64 (l : Int) (l : Int) (by omega) (by omega) (by omega), hs]
  simp only [Result.andThen, sliced, Int.toNat_natCast, Nat.mul_one, Nat.sub_self]
theorem slice_end {P : Program} (t : TypeId) (ht : P.underlying t = some (.slice (P.elem t))) (hs : ∀ W, (sizeOf (P.elem t)).run P W = .ok 1 W) (A : Option Addr) (n c : Nat) :
    ∃ A' c', ∀ W, (Instr.sliceAt t (.slice A n c) (some (.int .i64 (n : Int))) none none).run P W = .ok (.slice A' 0 c') W := by
  refine ⟨if c = n then A else A.map (·.add n), c - n, fun W => ?_⟩
  rw [run_sliceAt_slice W _ _ _ _ _ ht, run_slice_l W _ _ n c ht .i64 (n : Int) (by omega) (by omega), hs]
  simp only [Result.andThen, sliced, Int.toNat_natCast, Nat.mul_one, Nat.sub_self]

/-! Sorting of marks as the document has it, and by the stable sort. -/
theorem ins_stop (c x : Nat) (hx : clM x = 0) (R : List Nat) : ∀ A : List Nat, insB clM c (A ++ x :: R) = insB clM c A ++ x :: R
  | [] => by
    have h : ¬ (0 < clM c ∧ clM c < clM x) := by omega
    show (if 0 < clM c ∧ clM c < clM x then _ else _) = _
    rw [if_neg h]
    rfl
  | p :: A => by
    rw [List.cons_append, insB, insB]
    split
    · rw [ins_stop c x hx R A]; rfl
    · rfl
theorem sort_stop (x : Nat) (hx : clM x = 0) (R : List Nat) : ∀ (l A : List Nat), sortB clM (A ++ x :: R) l = sortB clM A l ++ x :: R
  | [], A => rfl
  | c :: l, A => by rw [sortB_cons, sortB_cons, ins_stop c x hx R A, sort_stop x hx R l]
theorem ins_split (y : Nat) (hy : 0 < clM y) : ∀ R : List Nat, ∃ R1 R2, R = R1 ++ R2 ∧ insB clM y R = R1 ++ y :: R2 ∧ (∀ u ∈ R1, clM y < clM u) ∧ (R2 = [] ∨ ∃ p R', R2 = p :: R' ∧ clM p ≤ clM y)
  | [] => ⟨[], [], rfl, rfl, by simp, .inl rfl⟩
  | p :: R => by
    by_cases h : clM y < clM p
    · obtain ⟨R1, R2, e1, e2, e3, e4⟩ := ins_split y hy R
      refine ⟨p :: R1, R2, by rw [e1]; rfl, by rw [insB, if_pos ⟨hy, h⟩, e2]; rfl, ?_, e4⟩
      intro u hu
      rcases List.mem_cons.1 hu with rfl | hu
      · exact h
      · exact e3 u hu
    · exact ⟨[], p :: R, rfl, by rw [insB, if_neg (fun q => h q.2)]; rfl, by simp, .inr ⟨p, R, rfl, by omega⟩⟩
theorem sort_srtd : ∀ (n : Nat) (U : List Nat), U.length = n → (∀ u ∈ U, 0 < clM u) → Srtd clM U (sortB clM [] U).reverse
  | 0, U, hn, _ => by
    rw [List.length_eq_zero_iff.1 hn]
    exact Srtd.self asc_nil
  | n + 1, U, hn, h => by
    have hne : U ≠ [] := fun e => by rw [e] at hn; simp at hn
    obtain ⟨U', y, rfl⟩ : ∃ U' y, U = U' ++ [y] := ⟨U.dropLast, U.getLast hne, (List.dropLast_concat_getLast hne).symm⟩
    have ih := sort_srtd n U' (by simpa using hn) fun u hu => h u (List.mem_append_left _ hu)
    have hy := h y (by simp)
    rw [sortB_app]
    show Srtd clM (U' ++ [y]) (insB clM y (sortB clM [] U')).reverse
    obtain ⟨R1, R2, e1, e2, e3, e4⟩ := ins_split y hy (sortB clM [] U')
    refine ih.then_ ?_
    have hasc := ih.1
    have g1 : (sortB clM [] U').reverse = R2.reverse ++ R1.reverse := by rw [e1, List.reverse_append]
    have g2 : (insB clM y (sortB clM [] U')).reverse = R2.reverse ++ y :: R1.reverse := by rw [e2]; simp
    rw [g1] at hasc
    rw [g1, g2]
    refine srt_right hasc ?_ (fun u hu => e3 u (List.mem_reverse.1 hu))
    rcases e4 with rfl | ⟨p, R', rfl, hp⟩
    · simp
    · rw [List.reverse_cons] at hasc ⊢
      exact asc_last (asc_app.1 hasc).1 hp
theorem pcl_mark {c : Nat} (h : 0 < clM c) : pcl c = clM c := by
  unfold clM at h ⊢
  split at h
  · rename_i hk
    rw [if_pos hk]
    unfold pcl
    by_cases h1 : c = 807
    · subst h1; rfl
    by_cases h2 : c = 808
    · subst h2; rfl
    rw [if_neg h1, if_neg h2, beq_false h1, beq_false h2]
    by_cases h3 : c = 803
    · subst h3; rfl
    · rw [if_neg h3, beq_false h3]; rfl
  · omega
theorem Srtd.congr {cl cl' : Nat → Nat} {U M : List Nat} (h : Srtd cl U M) (e : ∀ u ∈ U, cl u = cl' u) : Srtd cl' U M := by
  have em : ∀ u ∈ M, cl u = cl' u := fun u hu => e u (h.2.mem.1 hu)
  refine ⟨?_, fun k => ?_⟩
  · refine List.Pairwise.imp_of_mem ?_ h.1
    intro a b ha hb hab
    rw [← em a ha, ← em b hb]
    exact hab
  · have f : ∀ L : List Nat, (∀ u ∈ L, cl u = cl' u) → flt cl' k L = flt cl k L := fun L hL => by
      unfold flt
      exact List.filter_congr fun u hu => by rw [hL u hu]
    rw [f M em, f U e, h.2 k]
/-- What a run of marks becomes. -/
theorem run_sorted {U M : List Nat} (hU : ∀ u ∈ U, 0 < clM u) (h : Srtd pcl U M) : M = (sortB clM [] U).reverse :=
  (h.congr fun u hu => pcl_mark (hU u hu)).uniq (sort_srtd U.length U rfl hU)

theorem Spans.grown {w w' : World} {g : Nat} (h : Spans w) (hg : w.grownBy w' (some g)) (hne : g ≠ 0) : Spans w' := by
  have hl := h.lt
  obtain ⟨t, fz, h⟩ := h
  exact ⟨t, fz, (hg.block 0 hl (by intro e; exact hne (Option.some.inj e).symm)).trans h⟩
theorem Row.below {w w' : World} {g cap : Nat} {L : List Nat} (h : Row w g cap L) (hb : Below w.heap.size w w') : Row w' g cap L := by
  obtain ⟨cu, h1, h2, h3⟩ := h
  exact ⟨cu, h1.below hb h1.lt, h2, h3⟩
theorem Row.lt {w : World} {g cap : Nat} {L : List Nat} (h : Row w g cap L) : g < w.heap.size := by
  obtain ⟨cu, h1, _⟩ := h
  exact h1.lt
theorem at_drop {S D : List Nat} {st k x : Nat} (hS : S.length = st) (hk : st ≤ k) (hx : D[k]? = some x) : (S ++ D.drop st)[k]? = some x := by
  rw [get_right (by omega), List.getElem?_drop, hS, show st + (k - st) = k by omega]
  exact hx
theorem drop_cut (D : List Nat) {st k : Nat} (h : st ≤ k) : D.drop st = (D.drop st).take (k - st) ++ D.drop k := by
  conv => lhs; rw [← List.take_append_drop (k - st) (D.drop st)]
  rw [List.drop_drop, show st + (k - st) = k by omega]
theorem take_cut (D : List Nat) {st k : Nat} (h : st ≤ k) : D.take k = D.take st ++ (D.drop st).take (k - st) := by
  have e : k = st + (k - st) := by omega
  conv => lhs; rw [e]
  exact List.take_add
/-- Behind what is no mark, the marks are sorted by themselves. -/
def Parted (T : List Nat) : Prop := ∀ U, sortB clM T U = sortB clM [] U ++ T
theorem parted_nil : Parted [] := fun U => by rw [List.append_nil]
theorem parted_cons {x : Nat} (hx : clM x = 0) (R : List Nat) : Parted (x :: R) := fun U => sort_stop x hx R U []

set_option maxRecDepth 100000 in
set_option maxHeartbeats 12800000 in
theorem sortMarks_row (g n cap : Nat) (D : List Nat) (w : World) (hS : Spans w) (hg0 : g ≠ 0) (hD : D.length = n) (hnc : n ≤ cap) (hn : n ≤ 1000000) (hrow : Row w g cap D) :
    Calls Tryd.prog 43 #[.slice (some ⟨g, 0, none⟩) n cap] w fun e w' => e = .returned (.tuple #[]) ∧ Row w' g cap (sortB clM [] D).reverse ∧ w.grownBy w' (some g) := by
  have hss := size_elem_int
  have HDl := Lib.hid hD
  have HR0 := Lib.hid hrow
  have HS0 := Lib.hid hS
  clear hD hrow hS
  go_enter Tryd.func43, Tryd.ntmps43
  go_wp2
  go_loopw [3, 4, 5, 8] (fun s3 _ _ s8 wr => ∃ (st k : Nat) (S : List Nat), s3 = .int .i64 (st : Int) ∧ s8 = .int .i64 (k : Int) ∧ st ≤ k ∧ k ≤ n ∧ Hid (S.length = st ∧ S = (sortB clM [] (D.take st)).reverse) ∧ Hid (Parted (sortB clM [] (D.take st))) ∧ Hid (∀ u ∈ (D.drop st).take (k - st), 0 < clM u) ∧
    Hid (Row wr g cap (S ++ D.drop st)) ∧ w.grownBy wr (some g)) (fun _ _ _ s8 _ => n - (intOf s8).toNat)
  case atStart => exact ⟨0, 0, [], rfl, rfl, Nat.le_refl _, Nat.zero_le _, Lib.hid ⟨rfl, rfl⟩, Lib.hid parted_nil, Lib.hid (by simp), HR0, grown_refl _ _⟩
  case round =>
    obtain ⟨st, k, S, rfl, rfl, hstk, hkn, HSl, HPt, HMk, HR, hg⟩ := hrel
    have hSp : Spans wr := HS0.out.grown hg hg0
    by_cases hlt : k < n
    · have t1 : decide ((k : Int) < (n : Int)) = true := by simp; omega
      have kz : (k : Int) < (n : Int) := by omega
      obtain ⟨x, hx⟩ := get_some (l := D) (i := k) (by have := HDl.out; omega)
      have d0 : wr.cell? ⟨g, k, none⟩ = some (.int .i64 (x : Int)) := HR.out.cell (at_drop HSl.out.1 hstk hx)
      have HM := Lib.hid (prIsMark_any x wr hSp)
      cases hmk : isM x with
      | true =>
        rw [hmk] at HM
        have HMk2 : Hid (∀ u ∈ (D.drop st).take (k + 1 - st), 0 < clM u) := Lib.hid (by
          have e : k + 1 - st = (k - st) + 1 := by omega
          rw [e, take_next (show (D.drop st)[k - st]? = some x by rw [List.getElem?_drop, show st + (k - st) = k by omega]; exact hx)]
          intro u hu
          rcases List.mem_append.1 hu with hu | hu
          · exact HMk.out u hu
          · rw [List.mem_singleton.1 hu]; exact isM_pos.1 hmk)
        clear hx hmk hSp
        go_wp2_with fail
        refine HM.out.mono ?_
        rintro e w2 ⟨rfl, k2⟩
        have HR2 := Lib.hid (HR.out.below k2)
        have hg2 := grown_trans hg (grown_of_below (some g) k2)
        go_wp2
        go_roundw
        case rel => exact ⟨st, k + 1, S, rfl, by go_num, by omega, by omega, HSl, HPt, HMk2, HR2, hg2⟩
        case measure => simp [intOf]; omega
      | false =>
        rw [hmk] at HM
        have hx0 := isM_zero.1 hmk
        have hU : ((D.drop st).take (k - st)).length = k - st := by rw [List.length_take, List.length_drop]; have := HDl.out; omega
        have HK : Hid (∀ M w', Srtd pcl ((D.drop st).take (k - st)) M → Row w' g cap (S ++ (M ++ D.drop k)) → ∃ S', (S'.length = k + 1 ∧ S' = (sortB clM [] (D.take (k + 1))).reverse) ∧ Parted (sortB clM [] (D.take (k + 1))) ∧ Row w' g cap (S' ++ D.drop (k + 1))) := Lib.hid (by
          intro M w' hM hr
          have eM := run_sorted HMk.out hM
          have eT : sortB clM [] (D.take (k + 1)) = x :: (sortB clM [] ((D.drop st).take (k - st)) ++ sortB clM [] (D.take st)) := by
            rw [take_next hx, sortB_app, take_cut D hstk, sortB_app, HPt.out]
            exact ins_zero clM hx0 _
          refine ⟨S ++ (M ++ [x]), ⟨?_, ?_⟩, ?_, hr.same ?_⟩
          · rw [List.length_append, List.length_append, HSl.out.1, hM.length, hU, List.length_singleton]; omega
          · rw [eT, List.reverse_cons, List.reverse_append, ← HSl.out.2, ← eM, List.append_assoc]
          · rw [eT]
            exact parted_cons hx0 _
          · obtain ⟨h1, h2⟩ := List.getElem?_eq_some_iff.1 hx
            rw [List.drop_eq_getElem_cons h1, h2]
            simp)
        have HR1 : Hid (Row wr g cap (S ++ ((D.drop st).take (k - st) ++ D.drop k))) := Lib.hid (HR.out.same (by rw [← drop_cut D hstk]))
        by_cases hsk : st < k
        · have hsl := slice_mid (P := Tryd.prog) 27 elem_ints hss g 0 n st k cap hsk (by omega)
          simp only [Nat.zero_add] at hsl
          obtain ⟨m, hm⟩ : ∃ m, k - st = m := ⟨_, rfl⟩
          obtain ⟨c2, hc2⟩ : ∃ c2, cap - st = c2 := ⟨_, rfl⟩
          have HSS := Lib.hid (fun W (h : Row W g cap (S ++ ((D.drop st).take (k - st) ++ D.drop k))) => sortStable_any g st m c2 cap S ((D.drop st).take (k - st)) (D.drop k) W HSl.out.1 (by omega) (by omega) h)
          rw [hm, hc2] at hsl
          clear hx hmk hSp hx0 hU hm hc2
          go_wp2_with fail
          refine HM.out.mono ?_
          rintro e w2 ⟨rfl, k2⟩
          have HR2 := Lib.hid (HR1.out.below k2)
          have hg2 := grown_trans hg (grown_of_below (some g) k2)
          go_wp2_with fail
          refine (HSS.out _ HR2.out).mono ?_
          rintro e w3 ⟨rfl, M, hM, hr3, hg3⟩
          obtain ⟨S', q1, q2, q3⟩ := HK.out M w3 hM hr3
          have Q1 := Lib.hid q1
          have Q2 := Lib.hid q2
          have Q3 := Lib.hid q3
          have hg4 := grown_trans hg2 hg3
          clear q1 q2 q3 hM hr3
          go_wp2
          go_roundw
          case rel => exact ⟨k + 1, k + 1, S', by go_num, by go_num, Nat.le_refl _, by omega, Q1, Q2, Lib.hid (by rw [Nat.sub_self]; simp), Q3, hg4⟩
          case measure => simp [intOf]; omega
        · obtain rfl : st = k := by omega
          obtain ⟨A', c', hsl⟩ := slice_same (P := Tryd.prog) 27 elem_ints hss (some ⟨g, 0, none⟩) n st cap (by omega)
          have HSS := Lib.hid (fun W => sortStable_none A' c' W)
          have HE : Hid (∀ w', Row w' g cap (S ++ ((D.drop st).take (st - st) ++ D.drop st)) → Row w' g cap (S ++ ([] ++ D.drop st))) := Lib.hid (fun w' h => h.same (by rw [Nat.sub_self]; simp))
          have HZ : Hid (Srtd pcl ((D.drop st).take (st - st)) []) := Lib.hid (by rw [Nat.sub_self, List.take_zero]; exact Srtd.self asc_nil)
          clear hx hmk hSp hx0 hU hsk
          go_wp2_with fail
          refine HM.out.mono ?_
          rintro e w2 ⟨rfl, k2⟩
          have HR2 := Lib.hid (HE.out _ (HR1.out.below k2))
          have hg2 := grown_trans hg (grown_of_below (some g) k2)
          go_wp2_with fail
          refine (HSS.out _).mono ?_
          rintro e w3 ⟨rfl, rfl⟩
          obtain ⟨S', q1, q2, q3⟩ := HK.out [] w3 HZ.out HR2.out
          have Q1 := Lib.hid q1
          have Q2 := Lib.hid q2
          have Q3 := Lib.hid q3
          clear q1 q2 q3
          go_wp2
          go_roundw
          case rel => exact ⟨st + 1, st + 1, S', by go_num, by go_num, Nat.le_refl _, by omega, Q1, Q2, Lib.hid (by rw [Nat.sub_self]; simp), Q3, hg2⟩
          case measure => simp [intOf]; omega
    · obtain rfl : k = n := by omega
      have t1 : decide ((k : Int) < (k : Int)) = false := by simp
      have HU : Hid (∀ u ∈ D.drop st, 0 < clM u) := Lib.hid (by
        have h := HMk.out
        rw [List.take_of_length_le (by rw [List.length_drop, HDl.out]; exact Nat.le_refl _)] at h
        exact h)
      have HK : Hid (∀ M w', Srtd pcl (D.drop st) M → Row w' g cap (S ++ (M ++ [])) → Row w' g cap (sortB clM [] D).reverse) := Lib.hid (by
        intro M w' hM hr
        refine hr.same ?_
        have e : sortB clM [] D = sortB clM [] (D.drop st) ++ sortB clM [] (D.take st) := by
          conv => lhs; rw [← List.take_append_drop st D]
          rw [sortB_app, HPt.out]
        rw [e, List.reverse_append, ← HSl.out.2, run_sorted HU.out hM, List.append_nil])
      by_cases hsk : st < k
      · have hsl := slice_tail (P := Tryd.prog) 27 elem_ints hss g 0 k st cap hstk (by omega)
        simp only [Nat.zero_add] at hsl
        obtain ⟨m, hm⟩ : ∃ m, k - st = m := ⟨_, rfl⟩
        obtain ⟨c2, hc2⟩ : ∃ c2, cap - st = c2 := ⟨_, rfl⟩
        have HSS := Lib.hid (sortStable_any g st m c2 cap S (D.drop st) [] wr HSl.out.1 (by rw [List.length_drop, HDl.out]; omega) (by omega) (HR.out.same (by rw [List.append_nil])))
        rw [hm, hc2] at hsl
        clear hm hc2 hSp
        go_wp2_with fail
        refine HSS.out.mono ?_
        rintro e w3 ⟨rfl, M, hM, hr3, hg3⟩
        have HE := Lib.hid (HK.out M w3 hM hr3)
        have hg4 := grown_trans hg hg3
        clear hM hr3
        go_wp2
        go_end0
        exact ⟨rfl, HE.out, hg4⟩
      · obtain rfl : st = k := by omega
        obtain ⟨A', c', hsl⟩ := slice_end (P := Tryd.prog) 27 elem_ints hss (some ⟨g, 0, none⟩) st cap
        have HSS := Lib.hid (sortStable_none A' c' wr)
        have hnil : D.drop st = [] := List.drop_of_length_le (by rw [HDl.out]; exact Nat.le_refl _)
        have HE := Lib.hid (HK.out [] wr (by rw [hnil]; exact Srtd.self asc_nil) (HR.out.same (by rw [hnil]; simp)))
        clear hnil hSp hsk
        go_wp2_with fail
        refine HSS.out.mono ?_
        rintro e w3 ⟨rfl, rfl⟩
        go_wp2
        go_end0
        exact ⟨rfl, HE.out, hg⟩

end Go.Proofs.YtpgaebdaakllaaaDoor

namespace Go.Proofs.YtpgaebdaakllaaaDoor
open Go.RowKit

set_option maxRecDepth 100000 in
set_option maxHeartbeats 3200000 in
theorem sortMarks_none (A : Option Addr) (c : Nat) (w : World) :
    Calls Tryd.prog 43 #[.slice A 0 c] w fun e w' => e = .returned (.tuple #[]) ∧ w' = w := by
  have HSS := Lib.hid (fun W => sortStable_none A c W)
  go_enter Tryd.func43, Tryd.ntmps43
  go_wp2
  go_loopw [3, 4, 5, 8] (fun s3 _ _ s8 wr => s3 = .int .i64 0 ∧ s8 = .int .i64 0 ∧ wr = w) (fun _ _ _ _ _ => 0)
  case atStart => exact ⟨rfl, rfl, rfl⟩
  case round =>
    obtain ⟨rfl, rfl, rfl⟩ := hrel
    go_wp2_with fail
    refine (HSS.out _).mono ?_
    rintro e w3 ⟨rfl, rfl⟩
    go_wp2
    go_end0
    exact ⟨rfl, rfl⟩

/-- sortMarks over a row of the call's own. -/
theorem sortMarks_own (base : Nat) (v : Value) (D : List Nat) (w : World) (hS : Spans w) (hb0 : 0 < base) (hbw : base ≤ w.heap.size) (hD : D.length ≤ 1000000) (hown : w.ownsRow base 3 1 v D.length (D.map nv)) :
    Calls Tryd.prog 43 #[v] w fun e w' => e = .returned (.tuple #[]) ∧ w'.ownsRow base 3 1 v (sortB clM [] D).reverse.length ((sortB clM [] D).reverse.map nv) ∧ Below base w w' := by
  by_cases h0 : D.length = 0
  · have hA := Arr.of_own hown
    obtain ⟨A, c, rfl⟩ := hA.form
    have hnil := List.length_eq_zero_iff.1 h0
    subst hnil
    refine (sortMarks_none A c w).mono ?_
    rintro e w' ⟨rfl, rfl⟩
    exact ⟨rfl, hown, Below.refl _ _⟩
  · obtain ⟨g, cap, cur, rfl, k1, k2, k3, k4, k5, k6⟩ := own_open hown (by omega)
    refine (sortMarks_row g D.length cap D w hS (by omega) rfl k3 hD ⟨cur, k2, k5, k6⟩).mono ?_
    rintro e w' ⟨rfl, ⟨cu, h1, h2, h3⟩, hg⟩
    have hl : (sortB clM [] D).reverse.length = D.length := by rw [List.length_reverse, sort_len]; simp
    rw [hl] at h3
    exact ⟨rfl, own_M hl k1 h1 k3 k4 h2 h3, below_grown (Below.refl _ _) hg hbw fun g' hg' => (by cases hg'; exact k1)⟩

set_option maxRecDepth 100000 in
set_option maxHeartbeats 6400000 in
theorem prDecom_any (s : List UInt8) (w : World) (hS : Spans w) (hlen : s.length ≤ 10000) :
    Calls Tryd.prog 27 #[.string (str s)] w fun e w' => ∃ v, e = .returned (.tuple #[v, .bool (decR s).isSome]) ∧ w'.ownsRow w.heap.size 3 1 v (dcF (nL s)).length ((dcF (nL s)).map nv) ∧ Below w.heap.size w w' := by
  have HD := Lib.hid (prDecode_any s w hS hlen)
  have HS := Lib.hid hS
  obtain ⟨F, hF⟩ : ∃ F, dcF (nL s) = F := ⟨_, rfl⟩
  rw [hF]
  have HF := Lib.hid hF
  obtain ⟨R, hR⟩ : ∃ R, (decR s).isSome = R := ⟨_, rfl⟩
  rw [hR]
  have HR := Lib.hid hR
  clear hF hR hS
  go_enter Tryd.func27, Tryd.ntmps27
  go_wp2_with fail
  refine HD.out.mono ?_
  rintro e w1 ⟨hd, hb1⟩
  obtain ⟨A, n, cp, b, rfl, hcase⟩ := hd.form
  rcases hcase with ⟨rfl, l, h1, h2, hA, _⟩ | ⟨rfl, h1, rfl, rfl, rfl⟩
  · have HL : Hid (nL s = l) := Lib.hid (by unfold nL; rw [h1]; rfl)
    have HRt : Hid (R = true) := Lib.hid (by rw [← HR.out, h1]; rfl)
    have HLn : Hid (l.length = n) := Lib.hid h2.symm
    have HOK : Hid (∀ c ∈ l, okC c) := Lib.hid (enc_dec h1).2
    have hn : n ≤ 10000 := by have := dec_len h1; omega
    have hmk : ∀ W, (Instr.makeSlice 27 (.int .i64 0) (.int .i64 (n : Int))).run Tryd.prog W = .ok (.slice (some ⟨W.heap.size, 0, none⟩) 0 n) (W.alloc (.cells (madeOf (.int .i64 0) n) 3)) := fun W => make_ints 0 n (Nat.zero_le _) (by omega) W
    have hw1 : 0 < w1.heap.size := (HS.out.below hb1).lt
    have HS1 := Lib.hid (HS.out.below hb1)
    clear hd h1 h2
    go_wp2
    go_loopw [6, 8, 21] (fun v _ i wr => ∃ (k : Nat) (O : List Nat), k ≤ n ∧ i = .int .i64 (k : Int) ∧ O.length ≤ 2 * k ∧ Hid (O = (l.take k).flatMap wholeR) ∧ wr.ownsRow w1.heap.size 3 1 v O.length (O.map nv) ∧ Below w1.heap.size w1 wr) (fun _ _ i _ => n - (intOf i).toNat)
    case atStart =>
      refine ⟨0, [], by omega, rfl, by simp, Lib.hid rfl, ?_, below_new (Below.refl _ _) _⟩
      have h := own_box (base := w1.heap.size) (n := 0) (Box.made w1 3 (madeOf (.int .i64 0) n)) (madeOf_size _ _) (Nat.zero_le n) (by unfold maxLen; omega) (Nat.le_refl _)
      exact h
    case round =>
      obtain ⟨k, O, hk, rfl, hOl, HO, hown, hb⟩ := hrel
      have hbs := hb.size
      by_cases hlt : k < n
      · have t1 : decide ((k : Int) < (n : Int)) = true := by simp; omega
        obtain ⟨b0, o0, rfl, hB0, hc0⟩ := hA.some_ (by omega)
        obtain ⟨x, hx⟩ := get_some (l := l) (i := k) (by have := HLn.out; omega)
        have d0 := (hb.cell (p := ⟨b0, o0 + k, none⟩) hB0).trans (hc0 k x hx)
        simp only [nv] at d0
        have kz : (k : Int) < (n : Int) := by omega
        have HP := Lib.hid (prParts_any w1.heap.size _ O x wr (HOK.out x (List.mem_of_getElem? hx)) hbs (by omega) hown)
        have HX : Hid (O ++ wholeR x = (l.take (k + 1)).flatMap wholeR) := Lib.hid (by rw [take_next hx, List.flatMap_append, HO.out]; simp)
        have hX2 : (O ++ wholeR x).length ≤ 2 * (k + 1) := by rw [List.length_append]; have := whole_len x; omega
        obtain ⟨O2, hO2⟩ : ∃ O2, O ++ wholeR x = O2 := ⟨_, rfl⟩
        rw [hO2] at HP HX hX2
        clear hc0 hx hO2 hown
        go_wp2_with fail
        refine HP.out.mono ?_
        rintro e w2 ⟨v2, rfl, hown2, hb2⟩
        go_wp2
        go_roundw
        case rel => exact ⟨k + 1, O2, by omega, by go_num, hX2, HX, hown2, hb.trans hb2⟩
        case measure => simp [intOf]; omega
      · obtain rfl : k = n := by omega
        have HO2 : Hid (F = (sortB clM [] O).reverse) := Lib.hid (by
          rw [← HF.out, HL.out, HO.out, List.take_of_length_le (by rw [HLn.out]; exact Nat.le_refl _)]
          rfl)
        have HSM := Lib.hid (sortMarks_own w1.heap.size _ O wr (HS1.out.below hb) hw1 hbs (by omega) hown)
        rw [← HO2.out] at HSM
        clear hown
        go_wp2_with fail
        refine HSM.out.mono ?_
        rintro e w2 ⟨rfl, hown2, hb2⟩
        go_wp2
        go_ret2
        rw [HRt.out]
        exact ⟨_, rfl, own_less hb1.size hown2, below_next hb1 (hb.trans hb2)⟩
  · have HE : Hid (F = [] ∧ R = false) := Lib.hid ⟨by rw [← HF.out]; unfold nL; rw [h1]; rfl, by rw [← HR.out, h1]; rfl⟩
    clear hd h1
    go_wp2
    go_ret2
    rw [HE.out.1, HE.out.2]
    exact ⟨_, rfl, World.ownsRow_nil _ _ _ _, hb1⟩

theorem prEnc_own (base : Nat) (v : Value) (l : List Nat) (w : World) (hS : Spans w) (hown : w.ownsRow base 3 1 v l.length (l.map nv)) (hok : ∀ c ∈ l, okC c) (hl : l.length ≤ 10000) :
    Calls Tryd.prog 44 #[v] w fun e w' => e = .returned (.tuple #[.string (str (encL l)), .bool true]) ∧ Below w.heap.size w w' := by
  have hA := Arr.of_own hown
  obtain ⟨A, c, rfl⟩ := hA.form
  refine (prEncode_any A _ c _ w hS hA.int hl).mono ?_
  rintro e w' ⟨h1, h2⟩
  rw [encR_nats hok] at h1
  exact ⟨h1, h2⟩

set_option maxRecDepth 20000 in
set_option maxHeartbeats 1600000 in
theorem prEncS_any (base : Nat) (v : Value) (l : List Nat) (w : World) (hS : Spans w) (hown : w.ownsRow base 3 1 v l.length (l.map nv)) (hok : ∀ c ∈ l, okC c) (hl : l.length ≤ 10000) :
    Calls Tryd.prog 28 #[v] w fun e w' => e = .returned (.string (str (encL l))) ∧ Below w.heap.size w w' := by
  have HE := Lib.hid (prEnc_own base v l w hS hown hok hl)
  clear hown
  go_enter Tryd.func28, Tryd.ntmps28
  go_wp2_with fail
  refine HE.out.mono ?_
  rintro e w1 ⟨rfl, k1⟩
  go_wp2
  go_ret
  exact ⟨rfl, k1⟩

theorem dcL_len (s : List UInt8) (h : s.length ≤ 5000) : (dcF (nL s)).length ≤ 10000 := by
  have h1 := dcF_len (nL s)
  have h2 := nL_len s
  omega

set_option maxRecDepth 20000 in
set_option maxHeartbeats 1600000 in
theorem prDecompose_s (s : List UInt8) (w : World) (hS : Spans w) (hlen : s.length ≤ 5000) :
    Calls Tryd.prog 11 #[.string (str s)] w fun e w' => e = .returned (.string (str (nD s))) ∧ Below w.heap.size w w' := by
  have HD := Lib.hid (prDecom_any s w hS (by omega))
  have HS := Lib.hid hS
  have HL := Lib.hid (dcL_len s hlen)
  obtain ⟨R, hR⟩ : ∃ R, nD s = R := ⟨_, rfl⟩
  rw [hR]
  have HR : Hid (encL (dcF (nL s)) = R) := Lib.hid hR
  have HOK := Lib.hid (dcF_ok s)
  obtain ⟨l, hl⟩ : ∃ l, dcF (nL s) = l := ⟨_, rfl⟩
  rw [hl] at HD HR HOK HL
  clear hR hl hS
  go_enter Tryd.func11, Tryd.ntmps11
  go_wp2_with fail
  refine HD.out.mono ?_
  rintro e w1 ⟨v, rfl, hown, hb1⟩
  have HE := Lib.hid (prEncS_any _ v l w1 (HS.out.below hb1) hown HOK.out HL.out)
  clear hown
  go_wp2_with fail
  refine HE.out.mono ?_
  rintro e w2 ⟨rfl, hb2⟩
  go_wp2
  go_ret
  rw [HR.out]
  exact ⟨rfl, below_next hb1 hb2⟩

end Go.Proofs.YtpgaebdaakllaaaDoor
