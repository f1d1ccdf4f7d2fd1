/-
  Normal forms of strings: what the statements promise, in plain mathematics.
-/
import Derived.Test.YtpgaebdaakllaaaDoorRefCompose
namespace Go.Proofs.YtpgaebdaakllaaaDoor
open Go.RowKit

theorem nL_enc {l : List Nat} (h : ∀ c ∈ l, okC c) : nL (encL l) = l := by unfold nL; rw [dec_enc l h]; rfl
theorem enc_some {l : List Nat} (h : ∀ c ∈ l, okC c) : decR (encL l) = some l := dec_enc l h
theorem compF_ok {d : List Nat} (h : ∀ c ∈ d, hasN c = true) : ∀ c ∈ compF d, okC c := fun c hc => ok_of_has (compF_has _ d (Nat.le_refl _) h c hc)
theorem dc_has (s : List UInt8) : ∀ c ∈ dcF (nL s), hasN c = true := dcF_has (nL_has s)
theorem nL_nD (s : List UInt8) : nL (nD s) = dcF (nL s) := nL_enc (dcF_ok s)
theorem nL_nC (s : List UInt8) : nL (nC s) = compF (dcF (nL s)) := nL_enc (compF_ok (dc_has s))
theorem nD_nD (s : List UInt8) : nD (nD s) = nD s := by
  show encL (dcF (nL (nD s))) = _
  rw [nL_nD, dcF_dcF]
  rfl
theorem nC_nD (s : List UInt8) : nC (nD s) = nC s := by
  show encL (compF (dcF (nL (nD s)))) = _
  rw [nL_nD, dcF_dcF]
  rfl
theorem nD_nC (s : List UInt8) : nD (nC s) = nD s := by
  show encL (dcF (nL (nC s))) = _
  rw [nL_nC, dcF_compF (plain_dcF _)]
  rfl
theorem nC_nC (s : List UInt8) : nC (nC s) = nC s := by
  show encL (compF (dcF (nL (nC s)))) = _
  rw [nL_nC, dcF_compF (plain_dcF _)]
  rfl
theorem nIs_nC (s : List UInt8) : nIs (nC s) = true := by
  unfold nIs
  have h : decR (nC s) = some (compF (dcF (nL s))) := enc_some (compF_ok (dc_has s))
  rw [h, nC_nC, decide_eq_true rfl]
  rfl
theorem nD_inj {a b : List UInt8} (h : nD a = nD b) : dcF (nL a) = dcF (nL b) := by rw [← nL_nD, ← nL_nD, h]
theorem nEq_nC {a b : List UInt8} (ha : (decR a).isSome = true) (hb : (decR b).isSome = true) : nEq a b = decide (nC a = nC b) := by
  unfold nEq
  rw [ha, hb, Bool.true_and, Bool.true_and]
  by_cases h : nD a = nD b
  · rw [decide_eq_true h, decide_eq_true]
    show encL (compF (dcF (nL a))) = encL (compF (dcF (nL b)))
    rw [nD_inj h]
  · rw [decide_eq_false h, decide_eq_false]
    intro h2
    exact h (by rw [← nD_nC, h2, nD_nC])

/-! Lengths. -/
theorem nD_len (s : List UInt8) : (nD s).length ≤ 6 * s.length := by
  unfold nD
  have h1 := encL_len (dcF (nL s))
  have h2 := dcF_len (nL s)
  have h3 := nL_len s
  omega
theorem nC_len (s : List UInt8) : (nC s).length ≤ 6 * s.length := by
  unfold nC
  have h1 := encL_len (compF (dcF (nL s)))
  have h0 := compF_len _ (dcF (nL s)) (Nat.le_refl _)
  have h2 := dcF_len (nL s)
  have h3 := nL_len s
  omega
theorem nStrip_len (s : List UInt8) : (nStrip s).length ≤ 6 * s.length := by
  unfold nStrip
  have h1 := encL_len ((dcF (nL s)).filter fun c => !isM c)
  have h0 := List.length_filter_le (fun c => !isM c) (dcF (nL s))
  have h2 := dcF_len (nL s)
  have h3 := nL_len s
  omega

/-! Strings together. -/
theorem nL_app {s t : List UInt8} (hs : (decR s).isSome = true) (ht : (decR t).isSome = true) : nL (s ++ t) = nL s ++ nL t := by
  unfold nL
  cases h1 : decR s with
  | none => rw [h1] at hs; cases hs
  | some l =>
    cases h2 : decR t with
    | none => rw [h2] at ht; cases ht
    | some m => rw [dec_app h1, h2]; rfl
theorem join_dc {s t : List UInt8} (hs : (decR s).isSome = true) (ht : (decR t).isSome = true) (h : ∀ c, (nL t).head? = some c → clM c = 0) : dcF (nL (s ++ t)) = dcF (nL s) ++ dcF (nL t) := by rw [nL_app hs ht, dcF_join _ _ h]
theorem nD_join {s t : List UInt8} (hs : (decR s).isSome = true) (ht : (decR t).isSome = true) (h : ∀ c, (nL t).head? = some c → clM c = 0) : nD (s ++ t) = nD s ++ nD t := by
  unfold nD
  rw [join_dc hs ht h, encL_app]
theorem nStrip_join {s t : List UInt8} (hs : (decR s).isSome = true) (ht : (decR t).isSome = true) (h : ∀ c, (nL t).head? = some c → clM c = 0) : nStrip (s ++ t) = nStrip s ++ nStrip t := by
  unfold nStrip
  rw [join_dc hs ht h, List.filter_append, encL_app]
theorem nMarks_join {s t : List UInt8} (hs : (decR s).isSome = true) (ht : (decR t).isSome = true) (h : ∀ c, (nL t).head? = some c → clM c = 0) : nMarks (s ++ t) = nMarks s + nMarks t := by
  unfold nMarks
  rw [join_dc hs ht h, List.filter_append, List.length_append]

/-! Strings without marks. -/
theorem srt_zero : ∀ (l : List Nat), (∀ c ∈ l, clM c = 0) → Srt clM l
  | [], _ => trivial
  | [_], _ => trivial
  | y :: x :: r, h => ⟨fun hy => by have := h y (by simp); omega, srt_zero (x :: r) fun c hc => h c (by simp [hc])⟩
theorem strip_zero (s : List UInt8) : ∀ c ∈ (dcF (nL s)).filter (fun c => !isM c), clM c = 0 := by
  intro c hc
  have h := (List.mem_filter.1 hc).2
  rw [Bool.not_eq_true'] at h
  exact isM_zero.1 h
theorem strip_ok (s : List UInt8) : ∀ c ∈ (dcF (nL s)).filter (fun c => !isM c), okC c := fun c hc => dcF_ok s c (List.mem_filter.1 hc).1
theorem nL_strip (s : List UInt8) : nL (nStrip s) = (dcF (nL s)).filter fun c => !isM c := nL_enc (strip_ok s)
theorem dc_strip (s : List UInt8) : dcF (nL (nStrip s)) = (dcF (nL s)).filter fun c => !isM c := by
  rw [nL_strip]
  refine dcF_plain ⟨fun y hy => (plain_dcF (nL s)).1 y (List.mem_filter.1 hy).1, srt_zero _ fun c hc => strip_zero s c (List.mem_reverse.1 hc)⟩
theorem nD_strip (s : List UInt8) : nD (nStrip s) = nStrip s := by
  show encL (dcF (nL (nStrip s))) = _
  rw [dc_strip]
  rfl
theorem filter_same {p : Nat → Bool} {l : List Nat} (h : ∀ c ∈ l, p c = true) : l.filter p = l := List.filter_eq_self.2 h
theorem nStrip_strip (s : List UInt8) : nStrip (nStrip s) = nStrip s := by
  show encL ((dcF (nL (nStrip s))).filter fun c => !isM c) = _
  rw [dc_strip, filter_same (fun c hc => (List.mem_filter.1 hc).2)]
  rfl
theorem nMarks_strip (s : List UInt8) : nMarks (nStrip s) = 0 := by
  unfold nMarks
  rw [dc_strip, List.length_eq_zero_iff, List.filter_eq_nil_iff]
  intro c hc
  have := isM_zero.2 (strip_zero s c hc)
  rw [this]
  decide
theorem nStrip_eq {s t : List UInt8} (h : nEq s t = true) : nStrip t = nStrip s := by
  unfold nEq at h
  simp only [Bool.and_eq_true, decide_eq_true_eq] at h
  unfold nStrip
  rw [nD_inj h.2]

/-! The order of marks. -/
theorem srt_at : ∀ (R : List Nat) (i x y : Nat), Srt clM R → R[i]? = some y → R[i + 1]? = some x → 0 < clM y → clM x ≤ clM y
  | [], i, x, y, _, h, _, _ => by simp at h
  | [_], i, x, y, _, _, h, _ => by simp at h
  | a :: b :: r, 0, x, y, hs, h1, h2, h => by
    simp at h1 h2
    subst h1 h2
    exact hs.1 h
  | a :: b :: r, i + 1, x, y, hs, h1, h2, h => srt_at (b :: r) i x y hs.2 (by simpa using h1) (by simpa using h2) h
theorem dc_order {l : List Nat} {i x y : Nat} (h1 : (dcF l)[i]? = some x) (h2 : (dcF l)[i + 1]? = some y) (h : 0 < clM y) : clM x ≤ clM y := by
  obtain ⟨hl2, _⟩ := List.getElem?_eq_some_iff.1 h2
  have hs := (plain_dcF l).2
  refine srt_at _ ((dcF l).length - 2 - i) x y hs ?_ ?_ h
  · rw [List.getElem?_reverse (by omega), ← h2]
    congr 1
    omega
  · rw [List.getElem?_reverse (by omega), ← h1]
    congr 1
    omega
theorem dc_swap {P Q : List Nat} {x y : Nat} (hx : 0 < clM x) (hy : 0 < clM y) (hxy : clM x ≠ clM y) : dcF (P ++ y :: x :: Q) = dcF (P ++ x :: y :: Q) := by
  unfold dcF
  rw [List.flatMap_append, List.flatMap_append, List.flatMap_cons, List.flatMap_cons, List.flatMap_cons, List.flatMap_cons, whole_mark hx, whole_mark hy]
  simp only [List.singleton_append]
  rw [sortB_app clM [] (P.flatMap wholeR), sortB_app clM [] (P.flatMap wholeR)]
  refine congrArg List.reverse ?_
  rw [sortB_cons, sortB_cons, sortB_cons, sortB_cons, ins_comm clM hx hy hxy]

/-! Single characters. -/
def scrN (o : Nat) : List Nat → Nat
  | [] => o
  | c :: l => if Nat.beq (clsF c).1 0 = true then scrN o l else if (!Nat.beq o 0 && !Nat.beq (clsF c).1 o) = true then 4 else scrN (clsF c).1 l
theorem scrF_eq : ∀ (l : List Nat) (o : Nat), scrF o l = scrN o l
  | [], _ => rfl
  | c :: l, o => by
    rw [scrF, scrN, clsF_eq]
    by_cases h0 : (clsF c).1 = 0
    · rw [if_pos h0, if_pos (show Nat.beq (clsF c).1 0 = true by rw [Nat.beq_eq]; exact h0), scrF_eq l o]
    · rw [if_neg h0, if_neg (show ¬ Nat.beq (clsF c).1 0 = true by rw [Nat.beq_eq]; exact h0)]
      by_cases h1 : o ≠ 0 ∧ (clsF c).1 ≠ o
      · rw [if_pos h1, if_pos]
        rw [Bool.and_eq_true, Bool.not_eq_true', Bool.not_eq_true']
        exact ⟨beq_false h1.1, beq_false h1.2⟩
      · rw [if_neg h1, if_neg, scrF_eq l _]
        rw [Bool.and_eq_true, Bool.not_eq_true', Bool.not_eq_true']
        rintro ⟨h2, h3⟩
        refine h1 ⟨fun e => ?_, fun e => ?_⟩
        · rw [e] at h2; cases h2
        · rw [e, beq_true] at h3; cases h3
theorem char_scripts : (charL.all fun c => Nat.beq (scrN 0 (wholeR c)) (scrN 0 [c])) = true := by kernel_rfl
theorem pairs_back : (pairL.all fun x => Nat.beq (compR x.2.1 x.2.2) x.1) = true := by kernel_rfl
theorem dcF_one (c : Nat) : dcF [c] = wholeR c := by
  unfold dcF
  rw [List.flatMap_cons, List.flatMap_nil, List.append_nil]
  have key : ∀ l : List Nat, Srt clM l.reverse → (sortB clM [] l).reverse = l := fun l h => by
    rw [sort_sorted clM l [] (by rw [List.append_nil]; exact h)]
    simp
  refine key _ ?_
  rcases whole_cases c with e | ⟨b, m, hp, e⟩ | ⟨l, e, hl⟩
  · rw [e]; trivial
  · rw [e]
    exact ⟨fun _ => by have := (pair_of hp).cb; omega, trivial⟩
  · rw [e]
    exact srt_zero _ fun y hy => (hl y (List.mem_reverse.1 hy)).2.2
theorem letter_script {c : Nat} (hc : hasN c = true) : scriptR (nD (encL [c])) = scriptR (encL [c]) := by
  have h1 : ∀ x ∈ [c], okC x := fun x hx => by rw [List.mem_singleton] at hx; rw [hx]; exact ok_of_has hc
  have e1 : nD (encL [c]) = encL (wholeR c) := by unfold nD; rw [nL_enc h1, dcF_one]
  have h2 : ∀ x ∈ wholeR c, okC x := fun x hx => ok_of_has (whole_has hc hx)
  rw [e1]
  unfold scriptR
  rw [enc_some h1, enc_some h2]
  show scrF 0 (wholeR c) = scrF 0 [c]
  rw [scrF_eq, scrF_eq]
  have := List.all_eq_true.1 char_scripts c ((char_mem c).2 hc)
  rwa [Nat.beq_eq] at this
/-- What a character is replaced by: one character, no marks, or a letter and a mark that are composed to it again. -/
theorem letter_cases {c : Nat} (hc : hasN c = true) : (wholeR c).length = 1 ∨ nMarks (nD (encL [c])) = 0 ∨ ((wholeR c).length = 2 ∧ nC (nD (encL [c])) = encL [c]) := by
  have h1 : ∀ x ∈ [c], okC x := fun x hx => by rw [List.mem_singleton] at hx; rw [hx]; exact ok_of_has hc
  have e1 : dcF (nL (encL [c])) = wholeR c := by rw [nL_enc h1, dcF_one]
  rcases whole_cases c with e | ⟨b, m, hp, e⟩ | ⟨l, e, hl⟩
  · exact .inl (by rw [e]; rfl)
  · refine .inr (.inr ⟨by rw [e]; rfl, ?_⟩)
    rw [nC_nD]
    show encL (compF (dcF (nL (encL [c])))) = _
    rw [e1, e]
    have hpair := pair_of hp
    have hback : compR b m = c := by
      have := List.all_eq_true.1 pairs_back _ hp
      rwa [Nat.beq_eq] at this
    have hm : isM m = true := isM_pos.2 hpair.cm
    have hb : ¬ isM b = true := fun h => by have := isM_pos.1 h; have := hpair.cb; omega
    have hx : hasN c = true := hpair.hx
    have hne : compR b m ≠ 0 := by
      rw [hback]
      intro h0
      rw [h0] at hx
      exact absurd hx (by decide)
    rw [compF_base hb, List.takeWhile_cons, if_pos hm, List.takeWhile_nil, List.dropWhile_cons, if_pos hm, List.dropWhile_nil, run_yes hne (by rfl), runF, compF, hback]
    rfl
  · refine .inr (.inl ?_)
    unfold nMarks
    rw [nL_nD, e1, ← dcF_one, dcF_dcF, dcF_one, List.length_eq_zero_iff, List.filter_eq_nil_iff]
    intro y hy
    rw [e] at hy
    rw [isM_zero.2 (hl y hy).2.2]
    decide

end Go.Proofs.YtpgaebdaakllaaaDoor
