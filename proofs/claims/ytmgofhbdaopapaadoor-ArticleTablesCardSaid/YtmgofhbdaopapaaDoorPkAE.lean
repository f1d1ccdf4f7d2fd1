/-
  The reference's Decompose, encoded, Equal, Strip, Marks.
  The reference's Compose and Is.
  Normal forms of strings: what the statements promise, in plain mathematics.
  Folded forms and search forms in plain mathematics, and what the document promises of them.
-/
import Derived.Test.YtmgofhbdaopapaaDoorPkAD
namespace Go.Proofs.YtmgofhbdaopapaaDoor
open Go.RowKit

/-- The characters of an encoded string; none of others. -/
def nL (s : List UInt8) : List Nat := (decR s).getD []
def nD (s : List UInt8) : List UInt8 := encL (dcF (nL s))
def nC (s : List UInt8) : List UInt8 := encL (compF (dcF (nL s)))
def nStrip (s : List UInt8) : List UInt8 := encL ((dcF (nL s)).filter fun c => !isM c)
def nMarks (s : List UInt8) : Nat := ((dcF (nL s)).filter isM).length
def nIs (s : List UInt8) : Bool := (decR s).isSome && decide (nC s = s)
def nEq (a b : List UInt8) : Bool := (decR a).isSome && (decR b).isSome && decide (nD a = nD b)
theorem ok_of_has {c : Nat} (h : hasN c = true) : okC c := by
  rw [← hasN_eq] at h
  have := has_range h
  exact ⟨by omega, has_kind.1 h⟩
theorem has_of_ok {c : Nat} (h : okC c) : hasN c = true := by rw [← hasN_eq]; exact ok_has h
theorem nL_has (s : List UInt8) : ∀ c ∈ nL s, hasN c = true := by
  unfold nL
  cases h : decR s with
  | none => simp
  | some l => exact fun c hc => has_of_ok ((enc_dec h).2 c hc)
theorem nL_len (s : List UInt8) : (nL s).length ≤ s.length := by
  unfold nL
  cases h : decR s with
  | none => simp
  | some l => exact dec_len h
theorem dcF_len (l : List Nat) : (dcF l).length ≤ 2 * l.length := by
  unfold dcF
  rw [List.length_reverse, sort_len, List.length_nil, Nat.add_zero]
  induction l with
  | nil => simp
  | cons c l ih =>
    have := whole_len c
    rw [List.flatMap_cons, List.length_append, List.length_cons]
    omega
theorem dcF_ok (s : List UInt8) : ∀ c ∈ dcF (nL s), okC c := fun c hc => ok_of_has (dcF_has (nL_has s) c hc)

theorem str_beq (a b : List UInt8) : ((str a).toList == (str b).toList) = decide (a = b) := by
  rw [str_toList, str_toList]
  by_cases h : a = b
  · rw [h, decide_eq_true rfl]; simp
  · rw [decide_eq_false h]; simpa using h

theorem isM_zero {c : Nat} : isM c = false ↔ clM c = 0 := by
  unfold isM
  rw [← Bool.not_eq_true, Nat.blt_eq]
  omega
theorem isM_pos {c : Nat} : isM c = true ↔ 0 < clM c := by
  unfold isM
  rw [Nat.blt_eq]
theorem filter_next {p : Nat → Bool} {l : List Nat} {k c : Nat} (h : l[k]? = some c) : (l.take (k + 1)).filter p = (l.take k).filter p ++ if p c = true then [c] else [] := by
  rw [take_next h, List.filter_append]
  by_cases hp : p c = true
  · rw [if_pos hp]; simp [hp]
  · rw [if_neg hp]; simp [hp]

end Go.Proofs.YtmgofhbdaopapaaDoor

namespace Go.Proofs.YtmgofhbdaopapaaDoor
open Go.RowKit

theorem drop_cons {l : List Nat} {i y : Nat} (h : l[i]? = some y) : l.drop i = y :: l.drop (i + 1) := by
  obtain ⟨h1, h2⟩ := List.getElem?_eq_some_iff.1 h
  rw [List.drop_eq_getElem_cons h1, h2]
theorem get_of_drop {l r : List Nat} {i y : Nat} (h : l.drop i = y :: r) : l[i]? = some y := by
  have h2 := congrArg List.head? h
  rw [List.head?_drop] at h2
  exact h2
theorem compF_mark {y : Nat} {r : List Nat} (h : isM y = true) : compF (y :: r) = y :: compF r := by rw [compF, if_pos h]
theorem compF_base {y : Nat} {r : List Nat} (h : ¬ isM y = true) : compF (y :: r) = (runF y [] (r.takeWhile isM)).1 :: ((runF y [] (r.takeWhile isM)).2 ++ compF (r.dropWhile isM)) := by rw [compF, if_neg h]
theorem run_yes {c y : Nat} {left t : List Nat} (h : compR c y ≠ 0) (h2 : (left.any fun k => Nat.beq (clM k) (clM y)) = false) : runF c left (y :: t) = runF (compR c y) left t := by rw [runF, if_pos ⟨h, h2⟩]
theorem run_no {c y : Nat} {left t : List Nat} (h : ¬ (compR c y ≠ 0 ∧ (left.any fun k => Nat.beq (clM k) (clM y)) = false)) : runF c left (y :: t) = runF c (left ++ [y]) t := by rw [runF, if_neg h]
theorem any_next {p : Nat → Bool} {l : List Nat} {k c : Nat} (h : l[k]? = some c) : (l.take (k + 1)).any p = ((l.take k).any p || p c) := by
  rw [take_next h, List.any_append]
  simp
theorem compF_len : ∀ (n : Nat) (d : List Nat), d.length ≤ n → (compF d).length ≤ d.length
  | _, [], _ => by rw [compF]; simp
  | 0, _ :: _, hn => by simp at hn
  | n + 1, c :: r, hn => by
    rw [compF]
    split
    · have := compF_len n r (by simp at hn; omega)
      simp
      omega
    · have hlen := (List.dropWhile_suffix isM (l := r)).length_le
      have h1 := compF_len n (r.dropWhile isM) (by simp at hn; omega)
      have h2 : (r.takeWhile isM).length + (r.dropWhile isM).length = r.length := by
        rw [← List.length_append, List.takeWhile_append_dropWhile]
      have h3 : (runF c [] (r.takeWhile isM)).2.length ≤ (r.takeWhile isM).length := by
        rcases run_cases c (r.takeWhile isM) [] with e | ⟨A, m, B, e1, e2, e3, e4⟩
        · rw [e]; simp
        · rw [e4, e1]; simp
      simp
      omega

end Go.Proofs.YtmgofhbdaopapaaDoor

namespace Go.Proofs.YtmgofhbdaopapaaDoor
open Go.RowKit

theorem nL_enc {l : List Nat} (h : ∀ c ∈ l, okC c) : nL (encL l) = l := by unfold nL; rw [dec_enc l h]; rfl
theorem enc_some {l : List Nat} (h : ∀ c ∈ l, okC c) : decR (encL l) = some l := dec_enc l h
theorem compF_ok {d : List Nat} (h : ∀ c ∈ d, hasN c = true) : ∀ c ∈ compF d, okC c := fun c hc => ok_of_has (compF_has _ d (Nat.le_refl _) h c hc)
theorem dc_has (s : List UInt8) : ∀ c ∈ dcF (nL s), hasN c = true := dcF_has (nL_has s)
theorem nL_nD (s : List UInt8) : nL (nD s) = dcF (nL s) := nL_enc (dcF_ok s)
theorem nL_nC (s : List UInt8) : nL (nC s) = compF (dcF (nL s)) := nL_enc (compF_ok (dc_has s))
theorem nD_nD (s : List UInt8) : nD (nD s) = nD s := by
  show encL (dcF (nL (nD s))) = _
  rw [nL_nD, dcF_dcF]
  rfl
theorem nC_nD (s : List UInt8) : nC (nD s) = nC s := by
  show encL (compF (dcF (nL (nD s)))) = _
  rw [nL_nD, dcF_dcF]
  rfl
theorem nD_nC (s : List UInt8) : nD (nC s) = nD s := by
  show encL (dcF (nL (nC s))) = _
  rw [nL_nC, dcF_compF (plain_dcF _)]
  rfl
theorem nC_nC (s : List UInt8) : nC (nC s) = nC s := by
  show encL (compF (dcF (nL (nC s)))) = _
  rw [nL_nC, dcF_compF (plain_dcF _)]
  rfl
theorem nIs_nC (s : List UInt8) : nIs (nC s) = true := by
  unfold nIs
  have h : decR (nC s) = some (compF (dcF (nL s))) := enc_some (compF_ok (dc_has s))
  rw [h, nC_nC, decide_eq_true rfl]
  rfl
theorem nD_inj {a b : List UInt8} (h : nD a = nD b) : dcF (nL a) = dcF (nL b) := by rw [← nL_nD, ← nL_nD, h]
theorem nEq_nC {a b : List UInt8} (ha : (decR a).isSome = true) (hb : (decR b).isSome = true) : nEq a b = decide (nC a = nC b) := by
  unfold nEq
  rw [ha, hb, Bool.true_and, Bool.true_and]
  by_cases h : nD a = nD b
  · rw [decide_eq_true h, decide_eq_true]
    show encL (compF (dcF (nL a))) = encL (compF (dcF (nL b)))
    rw [nD_inj h]
  · rw [decide_eq_false h, decide_eq_false]
    intro h2
    exact h (by rw [← nD_nC, h2, nD_nC])

/-! Lengths. -/
theorem nD_len (s : List UInt8) : (nD s).length ≤ 6 * s.length := by
  unfold nD
  have h1 := encL_len (dcF (nL s))
  have h2 := dcF_len (nL s)
  have h3 := nL_len s
  omega
theorem nC_len (s : List UInt8) : (nC s).length ≤ 6 * s.length := by
  unfold nC
  have h1 := encL_len (compF (dcF (nL s)))
  have h0 := compF_len _ (dcF (nL s)) (Nat.le_refl _)
  have h2 := dcF_len (nL s)
  have h3 := nL_len s
  omega
theorem nStrip_len (s : List UInt8) : (nStrip s).length ≤ 6 * s.length := by
  unfold nStrip
  have h1 := encL_len ((dcF (nL s)).filter fun c => !isM c)
  have h0 := List.length_filter_le (fun c => !isM c) (dcF (nL s))
  have h2 := dcF_len (nL s)
  have h3 := nL_len s
  omega

/-! Strings together. -/
theorem nL_app {s t : List UInt8} (hs : (decR s).isSome = true) (ht : (decR t).isSome = true) : nL (s ++ t) = nL s ++ nL t := by
  unfold nL
  cases h1 : decR s with
  | none => rw [h1] at hs; cases hs
  | some l =>
    cases h2 : decR t with
    | none => rw [h2] at ht; cases ht
    | some m => rw [dec_app h1, h2]; rfl
theorem join_dc {s t : List UInt8} (hs : (decR s).isSome = true) (ht : (decR t).isSome = true) (h : ∀ c, (nL t).head? = some c → clM c = 0) : dcF (nL (s ++ t)) = dcF (nL s) ++ dcF (nL t) := by rw [nL_app hs ht, dcF_join _ _ h]
theorem nD_join {s t : List UInt8} (hs : (decR s).isSome = true) (ht : (decR t).isSome = true) (h : ∀ c, (nL t).head? = some c → clM c = 0) : nD (s ++ t) = nD s ++ nD t := by
  unfold nD
  rw [join_dc hs ht h, encL_app]
theorem nStrip_join {s t : List UInt8} (hs : (decR s).isSome = true) (ht : (decR t).isSome = true) (h : ∀ c, (nL t).head? = some c → clM c = 0) : nStrip (s ++ t) = nStrip s ++ nStrip t := by
  unfold nStrip
  rw [join_dc hs ht h, List.filter_append, encL_app]
theorem nMarks_join {s t : List UInt8} (hs : (decR s).isSome = true) (ht : (decR t).isSome = true) (h : ∀ c, (nL t).head? = some c → clM c = 0) : nMarks (s ++ t) = nMarks s + nMarks t := by
  unfold nMarks
  rw [join_dc hs ht h, List.filter_append, List.length_append]

/-! Strings without marks. -/
theorem srt_zero : ∀ (l : List Nat), (∀ c ∈ l, clM c = 0) → Srt clM l
  | [], _ => trivial
  | [_], _ => trivial
  | y :: x :: r, h => ⟨fun hy => by have := h y (by simp); omega, srt_zero (x :: r) fun c hc => h c (by simp [hc])⟩
theorem strip_zero (s : List UInt8) : ∀ c ∈ (dcF (nL s)).filter (fun c => !isM c), clM c = 0 := by
  intro c hc
  have h := (List.mem_filter.1 hc).2
  rw [Bool.not_eq_true'] at h
  exact isM_zero.1 h
theorem strip_ok (s : List UInt8) : ∀ c ∈ (dcF (nL s)).filter (fun c => !isM c), okC c := fun c hc => dcF_ok s c (List.mem_filter.1 hc).1
theorem nL_strip (s : List UInt8) : nL (nStrip s) = (dcF (nL s)).filter fun c => !isM c := nL_enc (strip_ok s)
theorem dc_strip (s : List UInt8) : dcF (nL (nStrip s)) = (dcF (nL s)).filter fun c => !isM c := by
  rw [nL_strip]
  refine dcF_plain ⟨fun y hy => (plain_dcF (nL s)).1 y (List.mem_filter.1 hy).1, srt_zero _ fun c hc => strip_zero s c (List.mem_reverse.1 hc)⟩
theorem nD_strip (s : List UInt8) : nD (nStrip s) = nStrip s := by
  show encL (dcF (nL (nStrip s))) = _
  rw [dc_strip]
  rfl
theorem filter_same {p : Nat → Bool} {l : List Nat} (h : ∀ c ∈ l, p c = true) : l.filter p = l := List.filter_eq_self.2 h
theorem nStrip_strip (s : List UInt8) : nStrip (nStrip s) = nStrip s := by
  show encL ((dcF (nL (nStrip s))).filter fun c => !isM c) = _
  rw [dc_strip, filter_same (fun c hc => (List.mem_filter.1 hc).2)]
  rfl
theorem nMarks_strip (s : List UInt8) : nMarks (nStrip s) = 0 := by
  unfold nMarks
  rw [dc_strip, List.length_eq_zero_iff, List.filter_eq_nil_iff]
  intro c hc
  have := isM_zero.2 (strip_zero s c hc)
  rw [this]
  decide
theorem nStrip_eq {s t : List UInt8} (h : nEq s t = true) : nStrip t = nStrip s := by
  unfold nEq at h
  simp only [Bool.and_eq_true, decide_eq_true_eq] at h
  unfold nStrip
  rw [nD_inj h.2]

/-! The order of marks. -/
theorem srt_at : ∀ (R : List Nat) (i x y : Nat), Srt clM R → R[i]? = some y → R[i + 1]? = some x → 0 < clM y → clM x ≤ clM y
  | [], i, x, y, _, h, _, _ => by simp at h
  | [_], i, x, y, _, _, h, _ => by simp at h
  | a :: b :: r, 0, x, y, hs, h1, h2, h => by
    simp at h1 h2
    subst h1 h2
    exact hs.1 h
  | a :: b :: r, i + 1, x, y, hs, h1, h2, h => srt_at (b :: r) i x y hs.2 (by simpa using h1) (by simpa using h2) h
theorem dc_order {l : List Nat} {i x y : Nat} (h1 : (dcF l)[i]? = some x) (h2 : (dcF l)[i + 1]? = some y) (h : 0 < clM y) : clM x ≤ clM y := by
  obtain ⟨hl2, _⟩ := List.getElem?_eq_some_iff.1 h2
  have hs := (plain_dcF l).2
  refine srt_at _ ((dcF l).length - 2 - i) x y hs ?_ ?_ h
  · rw [List.getElem?_reverse (by omega), ← h2]
    congr 1
    omega
  · rw [List.getElem?_reverse (by omega), ← h1]
    congr 1
    omega
theorem dc_swap {P Q : List Nat} {x y : Nat} (hx : 0 < clM x) (hy : 0 < clM y) (hxy : clM x ≠ clM y) : dcF (P ++ y :: x :: Q) = dcF (P ++ x :: y :: Q) := by
  unfold dcF
  rw [List.flatMap_append, List.flatMap_append, List.flatMap_cons, List.flatMap_cons, List.flatMap_cons, List.flatMap_cons, whole_mark hx, whole_mark hy]
  simp only [List.singleton_append]
  rw [sortB_app clM [] (P.flatMap wholeR), sortB_app clM [] (P.flatMap wholeR)]
  refine congrArg List.reverse ?_
  rw [sortB_cons, sortB_cons, sortB_cons, sortB_cons, ins_comm clM hx hy hxy]

/-! Single characters. -/
def scrN (o : Nat) : List Nat → Nat
  | [] => o
  | c :: l => if Nat.beq (clsF c).1 0 = true then scrN o l else if (!Nat.beq o 0 && !Nat.beq (clsF c).1 o) = true then 4 else scrN (clsF c).1 l
theorem scrF_eq : ∀ (l : List Nat) (o : Nat), scrF o l = scrN o l
  | [], _ => rfl
  | c :: l, o => by
    rw [scrF, scrN, clsF_eq]
    by_cases h0 : (clsF c).1 = 0
    · rw [if_pos h0, if_pos (show Nat.beq (clsF c).1 0 = true by rw [Nat.beq_eq]; exact h0), scrF_eq l o]
    · rw [if_neg h0, if_neg (show ¬ Nat.beq (clsF c).1 0 = true by rw [Nat.beq_eq]; exact h0)]
      by_cases h1 : o ≠ 0 ∧ (clsF c).1 ≠ o
      · rw [if_pos h1, if_pos]
        rw [Bool.and_eq_true, Bool.not_eq_true', Bool.not_eq_true']
        exact ⟨beq_false h1.1, beq_false h1.2⟩
      · rw [if_neg h1, if_neg, scrF_eq l _]
        rw [Bool.and_eq_true, Bool.not_eq_true', Bool.not_eq_true']
        rintro ⟨h2, h3⟩
        refine h1 ⟨fun e => ?_, fun e => ?_⟩
        · rw [e] at h2; cases h2
        · rw [e, beq_true] at h3; cases h3
theorem char_scripts : (charL.all fun c => Nat.beq (scrN 0 (wholeR c)) (scrN 0 [c])) = true := by kernel_rfl
theorem pairs_back : (pairL.all fun x => Nat.beq (compR x.2.1 x.2.2) x.1) = true := by kernel_rfl
theorem dcF_one (c : Nat) : dcF [c] = wholeR c := by
  unfold dcF
  rw [List.flatMap_cons, List.flatMap_nil, List.append_nil]
  have key : ∀ l : List Nat, Srt clM l.reverse → (sortB clM [] l).reverse = l := fun l h => by
    rw [sort_sorted clM l [] (by rw [List.append_nil]; exact h)]
    simp
  refine key _ ?_
  rcases whole_cases c with e | ⟨b, m, hp, e⟩ | ⟨l, e, hl⟩
  · rw [e]; trivial
  · rw [e]
    exact ⟨fun _ => by have := (pair_of hp).cb; omega, trivial⟩
  · rw [e]
    exact srt_zero _ fun y hy => (hl y (List.mem_reverse.1 hy)).2.2
theorem letter_script {c : Nat} (hc : hasN c = true) : scriptR (nD (encL [c])) = scriptR (encL [c]) := by
  have h1 : ∀ x ∈ [c], okC x := fun x hx => by rw [List.mem_singleton] at hx; rw [hx]; exact ok_of_has hc
  have e1 : nD (encL [c]) = encL (wholeR c) := by unfold nD; rw [nL_enc h1, dcF_one]
  have h2 : ∀ x ∈ wholeR c, okC x := fun x hx => ok_of_has (whole_has hc hx)
  rw [e1]
  unfold scriptR
  rw [enc_some h1, enc_some h2]
  show scrF 0 (wholeR c) = scrF 0 [c]
  rw [scrF_eq, scrF_eq]
  have := List.all_eq_true.1 char_scripts c ((char_mem c).2 hc)
  rwa [Nat.beq_eq] at this
/-- What a character is replaced by: one character, no marks, or a letter and a mark that are composed to it again. -/
theorem letter_cases {c : Nat} (hc : hasN c = true) : (wholeR c).length = 1 ∨ nMarks (nD (encL [c])) = 0 ∨ ((wholeR c).length = 2 ∧ nC (nD (encL [c])) = encL [c]) := by
  have h1 : ∀ x ∈ [c], okC x := fun x hx => by rw [List.mem_singleton] at hx; rw [hx]; exact ok_of_has hc
  have e1 : dcF (nL (encL [c])) = wholeR c := by rw [nL_enc h1, dcF_one]
  rcases whole_cases c with e | ⟨b, m, hp, e⟩ | ⟨l, e, hl⟩
  · exact .inl (by rw [e]; rfl)
  · refine .inr (.inr ⟨by rw [e]; rfl, ?_⟩)
    rw [nC_nD]
    show encL (compF (dcF (nL (encL [c])))) = _
    rw [e1, e]
    have hpair := pair_of hp
    have hback : compR b m = c := by
      have := List.all_eq_true.1 pairs_back _ hp
      rwa [Nat.beq_eq] at this
    have hm : isM m = true := isM_pos.2 hpair.cm
    have hb : ¬ isM b = true := fun h => by have := isM_pos.1 h; have := hpair.cb; omega
    have hx : hasN c = true := hpair.hx
    have hne : compR b m ≠ 0 := by
      rw [hback]
      intro h0
      rw [h0] at hx
      exact absurd hx (by decide)
    rw [compF_base hb, List.takeWhile_cons, if_pos hm, List.takeWhile_nil, List.dropWhile_cons, if_pos hm, List.dropWhile_nil, run_yes hne (by rfl), runF, compF, hback]
    rfl
  · refine .inr (.inl ?_)
    unfold nMarks
    rw [nL_nD, e1, ← dcF_one, dcF_dcF, dcF_one, List.length_eq_zero_iff, List.filter_eq_nil_iff]
    intro y hy
    rw [e] at hy
    rw [isM_zero.2 (hl y hy).2.2]
    decide

end Go.Proofs.YtmgofhbdaopapaaDoor

namespace Go.Proofs.YtmgofhbdaopapaaDoor

/-! Small letters, plain letters. -/
def lowL : List (Nat × Nat) := [(198, 230), (216, 248), (208, 240), (222, 254), (272, 273), (294, 295), (321, 322), (338, 339), (330, 331), (358, 359), (1030, 1110), (1028, 1108), (1168, 1169)]
def lowN (c : Nat) : Nat :=
  if (inN c 65 90 || (inN c 913 937 && !Nat.beq c 930) || inN c 1040 1071) = true then c + 32 else if Nat.beq c 962 = true then 963
  else match lowL.find? fun x => Nat.beq x.1 c with | some x => x.2 | none => c
def plL : List (Nat × Nat) := [(248, 111), (240, 100), (273, 100), (295, 104), (305, 105), (322, 108), (359, 116)]
def plainL (c : Nat) : List Nat :=
  if Nat.beq c 230 = true then [97, 101] else if Nat.beq c 339 = true then [111, 101] else if Nat.beq c 254 = true then [116, 104] else if Nat.beq c 331 = true then [110, 103]
  else match plL.find? fun x => Nat.beq x.1 c with | some x => [x.2] | none => [c]
def low1 (c : Nat) : List Nat := if Nat.beq c 223 = true then [115, 115] else [lowN c]
/-- 1: a letter; 2: a mark; 3: a digit; 4: a blank; 5: another one. -/
def kN (c : Nat) : Nat := (clsF c).2
def isLD (c : Nat) : Bool := Nat.beq (kN c) 1 || Nat.beq (kN c) 3
/-- What a folded character brings to the search form, ahead of the squeezing of blanks. -/
def tokL (c : Nat) : List Nat := if Nat.beq (kN c) 2 = true then [] else if isLD c = true then plainL c else [32]

/-! Squeezing of blanks. -/
def sqT : Bool → List Nat → List Nat
  | _, [] => []
  | p, c :: l => if Nat.beq c 32 = true then sqT true l else (if p = true then [32] else []) ++ c :: sqT false l
def sq : List Nat → List Nat
  | [] => []
  | c :: l => if Nat.beq c 32 = true then sq l else c :: sqT false l
theorem sqT_sp (p : Bool) (l : List Nat) : sqT p (32 :: l) = sqT true l := by rw [sqT, if_pos (beq_true 32)]
theorem sqT_f {c : Nat} (h : c ≠ 32) (l : List Nat) : sqT false (c :: l) = c :: sqT false l := by
  rw [sqT, beq_false h]
  rfl
theorem sqT_t {c : Nat} (h : c ≠ 32) (l : List Nat) : sqT true (c :: l) = 32 :: c :: sqT false l := by
  rw [sqT, beq_false h]
  rfl
theorem sq_sp (l : List Nat) : sq (32 :: l) = sq l := by rw [sq, if_pos (beq_true 32)]
theorem sq_cons {c : Nat} (h : c ≠ 32) (l : List Nat) : sq (c :: l) = c :: sqT false l := by
  rw [sq, beq_false h]
  rfl
theorem sqT_true : ∀ m : List Nat, sqT true m = if sq m = [] then [] else 32 :: sq m
  | [] => rfl
  | c :: m => by
    by_cases h : c = 32
    · subst h
      rw [sqT_sp, sq_sp, sqT_true m]
    · rw [sqT_t h, sq_cons h, if_neg (by simp)]
theorem sqT_app (m : List Nat) : ∀ (l : List Nat) (p : Bool), sqT p (l ++ 32 :: m) = sqT p l ++ sqT true m
  | [], p => by
    rw [List.nil_append, sqT_sp]
    rfl
  | c :: l, p => by
    rw [List.cons_append]
    by_cases h : c = 32
    · subst h
      rw [sqT_sp, sqT_sp, sqT_app m l true]
    · cases p with
      | false => rw [sqT_f h, sqT_f h, sqT_app m l false]; rfl
      | true => rw [sqT_t h, sqT_t h, sqT_app m l false]; rfl
theorem sq_app (m : List Nat) : ∀ l : List Nat, sq (l ++ 32 :: m) = if sq l = [] then sq m else if sq m = [] then sq l else sq l ++ 32 :: sq m
  | [] => by
    rw [List.nil_append, sq_sp]
    rfl
  | c :: l => by
    rw [List.cons_append]
    by_cases h : c = 32
    · subst h
      rw [sq_sp, sq_sp, sq_app m l]
    · rw [sq_cons h, sq_cons h, if_neg (by simp), sqT_app, sqT_true]
      by_cases hm : sq m = []
      · rw [if_pos hm, if_pos hm, List.append_nil]
      · rw [if_neg hm, if_neg hm]
        rfl
theorem sqT_sq : ∀ (l : List Nat) (p : Bool), sqT false (sqT p l) = sqT p l
  | [], _ => rfl
  | c :: l, p => by
    by_cases h : c = 32
    · subst h
      rw [sqT_sp]
      exact sqT_sq l true
    · cases p with
      | false => rw [sqT_f h, sqT_f h, sqT_sq l false]
      | true => rw [sqT_t h, sqT_sp, sqT_t h, sqT_sq l false]
theorem sq_sq : ∀ l : List Nat, sq (sq l) = sq l
  | [] => rfl
  | c :: l => by
    by_cases h : c = 32
    · subst h
      rw [sq_sp]
      exact sq_sq l
    · rw [sq_cons h, sq_cons h, sqT_sq]
theorem sqT_mem : ∀ (l : List Nat) (p : Bool) (y : Nat), y ∈ sqT p l → y = 32 ∨ y ∈ l
  | [], _, _, h => by simp [sqT] at h
  | c :: l, p, y, h => by
    have key : ∀ q, y ∈ sqT q l → y = 32 ∨ y ∈ c :: l := fun q hq => (sqT_mem l q y hq).imp id (List.mem_cons_of_mem _)
    by_cases hc : c = 32
    · subst hc
      rw [sqT_sp] at h
      exact key true h
    · cases p with
      | false =>
        rw [sqT_f hc] at h
        rcases List.mem_cons.1 h with rfl | h
        · exact .inr (List.mem_cons_self ..)
        · exact key false h
      | true =>
        rw [sqT_t hc] at h
        rcases List.mem_cons.1 h with h | h
        · exact .inl h
        · rcases List.mem_cons.1 h with rfl | h
          · exact .inr (List.mem_cons_self ..)
          · exact key false h
theorem sq_mem : ∀ (l : List Nat) (y : Nat), y ∈ sq l → y = 32 ∨ y ∈ l
  | [], _, h => by simp [sq] at h
  | c :: l, y, h => by
    by_cases hc : c = 32
    · subst hc
      rw [sq_sp] at h
      exact (sq_mem l y h).imp id (List.mem_cons_of_mem _)
    · rw [sq_cons hc] at h
      rcases List.mem_cons.1 h with rfl | h
      · exact .inr (List.mem_cons_self ..)
      · exact (sqT_mem l false y h).imp id (List.mem_cons_of_mem _)
/-- A blank stands neither at the end nor ahead of another one. -/
theorem sqT_blank : ∀ (l : List Nat) (p : Bool) (i : Nat), (sqT p l)[i]? = some 32 → i + 1 < (sqT p l).length ∧ (sqT p l)[i + 1]? ≠ some 32
  | [], _, i, h => by simp [sqT] at h
  | c :: l, p, i, h => by
    by_cases hc : c = 32
    · subst hc
      rw [sqT_sp] at h ⊢
      exact sqT_blank l true i h
    · have key : ∀ j, (c :: sqT false l)[j]? = some 32 → j + 1 < (c :: sqT false l).length ∧ (c :: sqT false l)[j + 1]? ≠ some 32 := by
        intro j hj
        cases j with
        | zero =>
          simp at hj
          exact absurd hj hc
        | succ j =>
          have := sqT_blank l false j (by simpa using hj)
          simp
          simp at this
          exact ⟨by omega, this.2⟩
      cases p with
      | false =>
        rw [sqT_f hc] at h ⊢
        exact key i h
      | true =>
        rw [sqT_t hc] at h ⊢
        cases i with
        | zero =>
          simp
          exact fun e => hc e
        | succ i =>
          have := key i (by simpa using h)
          simp at this ⊢
          exact this
/-- Blanks of a squeezed list stand alone, between others. -/
theorem sq_blank {l : List Nat} {i : Nat} (h : (sq l)[i]? = some 32) : 0 < i ∧ i + 1 < (sq l).length ∧ (sq l)[i - 1]? ≠ some 32 := by
  induction l with
  | nil => simp [sq] at h
  | cons c l ih =>
    by_cases hc : c = 32
    · subst hc
      rw [sq_sp] at h ⊢
      exact ih h
    · rw [sq_cons hc] at h ⊢
      cases i with
      | zero =>
        simp at h
        exact absurd h hc
      | succ i =>
        have h1 : (sqT false l)[i]? = some 32 := by simpa using h
        have h2 := sqT_blank l false i h1
        refine ⟨by omega, by simp; omega, ?_⟩
        cases i with
        | zero =>
          simp
          exact hc
        | succ i =>
          intro e
          have e1 : (sqT false l)[i]? = some 32 := by simpa using e
          exact (sqT_blank l false i e1).2 h1

/-! Folded forms. -/
def foldL (d : List Nat) : List Nat := d.flatMap low1
def searchL (f : List Nat) : List Nat := sq (f.flatMap tokL)
def is1 (l : List Nat) (c : Nat) : Bool := match l with | [x] => Nat.beq x c | _ => false
theorem is1_eq {l : List Nat} {c : Nat} (h : is1 l c = true) : l = [c] := by
  unfold is1 at h
  split at h
  · rw [Nat.beq_eq] at h; rw [h]
  · cases h
theorem is1_of {l : List Nat} {c : Nat} (h : l = [c]) : is1 l c = true := by
  subst h
  exact beq_true c
/-- What holds of the plain letters of a letter or digit. -/
def goodE (e : Nat) : Bool := hasN e && is1 (wholeR e) e && Nat.beq (clF e) 0 && is1 (low1 e) e && is1 (plainL e) e && isLD e && !Nat.beq e 32 && (Nat.beq (kN e) 1 || Nat.ble e 57)
def goodD (c : Nat) : Bool := !(is1 (wholeR c) c) || ((low1 c).all fun d => hasN d && is1 (wholeR d) d && Nat.beq (clF d) (clF c) && is1 (low1 d) d && (!(isLD d) || (plainL d).all goodE))
theorem chars_good : (charL.all goodD) = true := by kernel_rfl
def eqB : List Nat → List Nat → Bool
  | [], [] => true
  | x :: l, y :: m => Nat.beq x y && eqB l m
  | _, _ => false
theorem eqB_eq : ∀ {l m : List Nat}, eqB l m = true → l = m
  | [], [], _ => rfl
  | x :: l, y :: m, h => by
    rw [eqB, Bool.and_eq_true, Nat.beq_eq] at h
    rw [h.1, eqB_eq h.2]
  | [], _ :: _, h => by cases h
  | _ :: _, [], h => by cases h
/-- What a character and its small letter stand for differs in the first character alone, which is no mark and has the same small letter. -/
def goodC (c : Nat) : Bool := Nat.beq (lowN c) c || (hasN (lowN c) && Nat.beq (lowN (lowN c)) (lowN c) && match wholeR c, wholeR (lowN c) with
  | b :: ms, d :: ns => eqB ms ns && Nat.beq (clF b) 0 && Nat.beq (clF d) 0 && eqB (low1 b) (low1 d)
  | _, _ => false)
theorem chars_low : (charL.all goodC) = true := by kernel_rfl
structure GoodD (c d : Nat) : Prop where
  has : hasN d = true
  whole : wholeR d = [d]
  cls : clM d = clM c
  low : low1 d = [d]
  plain : isLD d = true → ∀ e ∈ plainL d, goodE e = true
theorem good_low {c d : Nat} (hc : hasN c = true) (hw : wholeR c = [c]) (hd : d ∈ low1 c) : GoodD c d := by
  have h := List.all_eq_true.1 chars_good c ((char_mem c).2 hc)
  unfold goodD at h
  rw [is1_of hw, Bool.not_true, Bool.false_or, List.all_eq_true] at h
  have h2 := h d hd
  simp only [Bool.and_eq_true, Bool.or_eq_true, Bool.not_eq_true', List.all_eq_true, Nat.beq_eq] at h2
  obtain ⟨⟨⟨⟨h3, h4⟩, h5⟩, h6⟩, h7⟩ := h2
  refine ⟨h3, is1_eq h4, by rw [clM_eq, clM_eq, h5], is1_eq h6, fun hl => ?_⟩
  rcases h7 with h7 | h7
  · rw [hl] at h7; cases h7
  · exact h7
structure GoodE (e : Nat) : Prop where
  has : hasN e = true
  whole : wholeR e = [e]
  cls : clM e = 0
  low : low1 e = [e]
  plain : plainL e = [e]
  ld : isLD e = true
  nsp : e ≠ 32
  dig : kN e = 1 ∨ e ≤ 57
theorem good_e {e : Nat} (h : goodE e = true) : GoodE e := by
  unfold goodE at h
  simp only [Bool.and_eq_true, Bool.or_eq_true, Bool.not_eq_true', Nat.beq_eq, Nat.ble_eq] at h
  obtain ⟨⟨⟨⟨⟨⟨⟨h1, h2⟩, h3⟩, h4⟩, h5⟩, h6⟩, h7⟩, h8⟩ := h
  have h9 : clM e = 0 := by rw [clM_eq]; exact h3
  refine ⟨h1, is1_eq h2, h9, is1_eq h4, is1_eq h5, h6, fun e0 => ?_, h8⟩
  rw [e0, beq_true] at h7
  cases h7
/-- A list of characters that are decomposed. -/
def Dec (d : List Nat) : Prop := (∀ c ∈ d, hasN c = true) ∧ Plain d
theorem dec_dc (s : List UInt8) : Dec (dcF (nL s)) := ⟨dc_has s, plain_dcF _⟩
theorem fold_mem {d : List Nat} (h : Dec d) {y : Nat} (hy : y ∈ foldL d) : ∃ c ∈ d, GoodD c y := by
  unfold foldL at hy
  obtain ⟨c, hc, hm⟩ := List.mem_flatMap.1 hy
  exact ⟨c, hc, good_low (h.1 c hc) (h.2.1 c hc) hm⟩
theorem fold_same {f : List Nat} (h : ∀ y ∈ f, low1 y = [y]) : foldL f = f := by
  unfold foldL
  induction f with
  | nil => rfl
  | cons c f ih => rw [List.flatMap_cons, h c (by simp), ih fun y hy => h y (by simp [hy])]; rfl
theorem low1_head (c : Nat) : (low1 c = [lowN c]) ∨ (c = 223 ∧ low1 c = [115, 115]) := by
  unfold low1
  by_cases h : c = 223
  · exact .inr ⟨h, by rw [h]; rfl⟩
  · exact .inl (by rw [beq_false h]; rfl)
theorem srt_low : ∀ R : List Nat, (∀ c ∈ R, hasN c = true ∧ wholeR c = [c]) → Srt clM R → Srt clM (R.flatMap fun c => (low1 c).reverse)
  | [], _, _ => trivial
  | [y], _, _ => by
    rcases low1_head y with e | ⟨_, e⟩
    · rw [List.flatMap_cons, e]; trivial
    · rw [List.flatMap_cons, e]
      exact ⟨fun h => absurd h (by decide +kernel), trivial⟩
  | y :: x :: r, hall, h => by
    have ih := srt_low (x :: r) (fun c hc => hall c (List.mem_cons_of_mem _ hc)) h.2
    have hx := hall x (by simp)
    have hy := hall y (by simp)
    have hxz : ∃ z t, (x :: r).flatMap (fun c => (low1 c).reverse) = z :: t ∧ clM z = clM x := by
      rcases low1_head x with e | ⟨_, e⟩
      · exact ⟨lowN x, _, by rw [List.flatMap_cons, e]; rfl, (good_low hx.1 hx.2 (by rw [e]; simp)).cls⟩
      · exact ⟨115, _, by rw [List.flatMap_cons, e]; rfl, (good_low hx.1 hx.2 (by rw [e]; simp)).cls⟩
    obtain ⟨z, t, ez, hz⟩ := hxz
    rw [List.flatMap_cons, ez]
    rw [ez] at ih
    rcases low1_head y with e | ⟨e0, e⟩
    · have hc := (good_low hy.1 hy.2 (by rw [e]; simp : lowN y ∈ low1 y)).cls
      rw [e]
      refine ⟨fun h0 => ?_, ih⟩
      rw [hc] at h0 ⊢
      rw [hz]
      exact h.1 h0
    · have h115 : clM 115 = 0 := by decide +kernel
      rw [e]
      exact ⟨fun h0 => by omega, fun h0 => by omega, ih⟩
theorem fold_dec {d : List Nat} (h : Dec d) : Dec (foldL d) := by
  refine ⟨fun y hy => ?_, fun y hy => ?_, ?_⟩
  · obtain ⟨c, _, g⟩ := fold_mem h hy; exact g.has
  · obtain ⟨c, _, g⟩ := fold_mem h hy; exact g.whole
  · unfold foldL
    rw [List.reverse_flatMap]
    exact srt_low d.reverse (fun c hc => ⟨h.1 c (List.mem_reverse.1 hc), h.2.1 c (List.mem_reverse.1 hc)⟩) h.2.2
theorem fold_fold {d : List Nat} (h : Dec d) : foldL (foldL d) = foldL d := fold_same fun y hy => by
  obtain ⟨c, _, g⟩ := fold_mem h hy
  exact g.low

/-! Search forms. -/
theorem tok_mem {d : List Nat} (h : Dec d) {y : Nat} (hy : y ∈ (foldL d).flatMap tokL) : y = 32 ∨ GoodE y := by
  obtain ⟨c, hc, hm⟩ := List.mem_flatMap.1 hy
  obtain ⟨c0, _, g⟩ := fold_mem h hc
  unfold tokL at hm
  split at hm
  · simp at hm
  · split at hm
    · rename_i hl
      exact .inr (good_e (g.plain hl y hm))
    · exact .inl (List.mem_singleton.1 hm)
theorem search_mem {d : List Nat} (h : Dec d) {y : Nat} (hy : y ∈ searchL (foldL d)) : y = 32 ∨ GoodE y := by
  rcases sq_mem _ y hy with e | e
  · exact .inl e
  · exact tok_mem h e
theorem blank_facts : hasN 32 = true ∧ wholeR 32 = [32] ∧ clM 32 = 0 ∧ low1 32 = [32] ∧ tokL 32 = [32] := by decide +kernel
theorem tok_good {e : Nat} (h : GoodE e) : tokL e = [e] := by
  have h2 : Nat.beq (kN e) 2 = false := by
    have := h.ld
    unfold isLD at this
    rw [Bool.or_eq_true, Nat.beq_eq, Nat.beq_eq] at this
    exact beq_false (by omega)
  unfold tokL
  rw [h2, h.ld, h.plain]
  rfl
theorem search_facts {d : List Nat} (h : Dec d) {y : Nat} (hy : y ∈ searchL (foldL d)) : hasN y = true ∧ wholeR y = [y] ∧ clM y = 0 ∧ low1 y = [y] ∧ tokL y = [y] := by
  rcases search_mem h hy with rfl | g
  · exact blank_facts
  · exact ⟨g.has, g.whole, g.cls, g.low, tok_good g⟩
theorem search_dec {d : List Nat} (h : Dec d) : Dec (searchL (foldL d)) :=
  ⟨fun _ hy => (search_facts h hy).1, fun _ hy => (search_facts h hy).2.1, srt_zero _ fun _ hy => (search_facts h (List.mem_reverse.1 hy)).2.2.1⟩
theorem search_fold {d : List Nat} (h : Dec d) : foldL (searchL (foldL d)) = searchL (foldL d) := fold_same fun _ hy => (search_facts h hy).2.2.2.1
theorem search_search {d : List Nat} (h : Dec d) : searchL (searchL (foldL d)) = searchL (foldL d) := by
  have e : (searchL (foldL d)).flatMap tokL = searchL (foldL d) := by
    have key : ∀ f : List Nat, (∀ z ∈ f, tokL z = [z]) → f.flatMap tokL = f := by
      intro f
      induction f with
      | nil => intro _; rfl
      | cons c f ih => intro h; rw [List.flatMap_cons, h c (by simp), ih fun y hy => h y (by simp [hy])]; rfl
    exact key _ fun y hy => (search_facts h hy).2.2.2.2
  have e2 : searchL (searchL (foldL d)) = sq ((searchL (foldL d)).flatMap tokL) := rfl
  rw [e2, e]
  exact sq_sq _

/-! Of strings. -/
def nFL (s : List UInt8) : List Nat := foldL (dcF (nL s))
def nSL (s : List UInt8) : List Nat := searchL (nFL s)
def nFold (s : List UInt8) : List UInt8 := encL (nFL s)
def nSearch (s : List UInt8) : List UInt8 := encL (nSL s)
theorem dec_ok {d : List Nat} (h : Dec d) : ∀ c ∈ d, okC c := fun c hc => ok_of_has (h.1 c hc)
theorem nFL_dec (s : List UInt8) : Dec (nFL s) := fold_dec (dec_dc s)
theorem nSL_dec (s : List UInt8) : Dec (nSL s) := search_dec (dec_dc s)
theorem nL_nFold (s : List UInt8) : nL (nFold s) = nFL s := nL_enc (dec_ok (nFL_dec s))
theorem nL_nSearch (s : List UInt8) : nL (nSearch s) = nSL s := nL_enc (dec_ok (nSL_dec s))
theorem dc_dec {d : List Nat} (h : Dec d) : dcF d = d := dcF_plain h.2
theorem nFL_nFold (s : List UInt8) : nFL (nFold s) = nFL s := by
  have e : nFL (nFold s) = foldL (dcF (nL (nFold s))) := rfl
  rw [e, nL_nFold, dc_dec (nFL_dec s)]
  exact fold_fold (dec_dc s)
theorem nFL_nSearch (s : List UInt8) : nFL (nSearch s) = nSL s := by
  have e : nFL (nSearch s) = foldL (dcF (nL (nSearch s))) := rfl
  rw [e, nL_nSearch, dc_dec (nSL_dec s)]
  exact search_fold (dec_dc s)
theorem nFold_nFold (s : List UInt8) : nFold (nFold s) = nFold s := by
  have e : nFold (nFold s) = encL (nFL (nFold s)) := rfl
  rw [e, nFL_nFold]
  rfl
theorem nSearch_nFold (s : List UInt8) : nSearch (nFold s) = nSearch s := by
  have e : nSearch (nFold s) = encL (searchL (nFL (nFold s))) := rfl
  rw [e, nFL_nFold]
  rfl
theorem nFold_nSearch (s : List UInt8) : nFold (nSearch s) = nSearch s := by
  have e : nFold (nSearch s) = encL (nFL (nSearch s)) := rfl
  rw [e, nFL_nSearch]
  rfl
theorem nSearch_nSearch (s : List UInt8) : nSearch (nSearch s) = nSearch s := by
  have e : nSearch (nSearch s) = encL (searchL (nFL (nSearch s))) := rfl
  rw [e, nFL_nSearch]
  show encL (searchL (searchL (foldL (dcF (nL s))))) = _
  rw [search_search (dec_dc s)]
  rfl
theorem fold_equal {s t : List UInt8} (h : nEq s t = true) : nFL s = nFL t := by
  unfold nEq at h
  rw [Bool.and_eq_true, decide_eq_true_eq] at h
  unfold nFL
  rw [nD_inj h.2]

end Go.Proofs.YtmgofhbdaopapaaDoor
