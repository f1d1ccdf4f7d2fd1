/-
  Joining, small letters, added marks, characters of search forms in plain mathematics.
  The reference's Valid, Cut.
  Articles of titles, as plain mathematics.
  What the document promises of articles, by bytes.
  What the document promises of articles: titles without one, titles with each.
-/
import Derived.Test.YtmgofhbdaopapaaDoorPkAE
import Derived.Test.YtmgofhbdaopapaaDoorPkAD
namespace Go.Proofs.YtmgofhbdaopapaaDoor

theorem ins_one (c x : Nat) (hx : clM x = 0) : ∀ A : List Nat, insB clM c (A ++ [x]) = insB clM c A ++ [x]
  | [] => by
    have h : ¬ (0 < clM c ∧ clM c < clM x) := by omega
    show (if 0 < clM c ∧ clM c < clM x then _ else _) = _
    rw [if_neg h]
    rfl
  | p :: A => by
    rw [List.cons_append, insB, insB]
    split
    · rw [ins_one c x hx A]; rfl
    · rfl
theorem sort_one (x : Nat) (hx : clM x = 0) : ∀ (l A : List Nat), sortB clM (A ++ [x]) l = sortB clM A l ++ [x]
  | [], _ => rfl
  | c :: l, A => by rw [sortB_cons, sortB_cons, ins_one c x hx A, sort_one x hx l]
theorem sort_first {b : Nat} (hb : clM b = 0) (X : List Nat) : (sortB clM [] (b :: X)).reverse = b :: (sortB clM [] X).reverse := by
  have h := sort_one b hb X []
  rw [sortB_cons, show insB clM b [] = [] ++ [b] from rfl, h, List.reverse_append]
  rfl
theorem dc_blank (l m : List Nat) : dcF (l ++ 32 :: m) = dcF l ++ 32 :: dcF m := by
  rw [dcF_join l (32 :: m) (fun c hc => by simp at hc; subst hc; exact blank_facts.2.2.1)]
  congr 1
  unfold dcF
  rw [List.flatMap_cons, blank_facts.2.1, List.singleton_append, sort_first blank_facts.2.2.1]
theorem fold_app (a b : List Nat) : foldL (a ++ b) = foldL a ++ foldL b := List.flatMap_append
theorem fold_blank (b : List Nat) : foldL (32 :: b) = 32 :: foldL b := by
  unfold foldL
  rw [List.flatMap_cons, blank_facts.2.2.2.1]
  rfl
theorem dec_blank : decR [32] = some [32] := by
  have h := dec_enc [32] (fun c hc => by rw [List.mem_singleton.1 hc]; exact ok_of_has blank_facts.1)
  exact h
theorem nL_blank {s t : List UInt8} (hs : (decR s).isSome = true) (ht : (decR t).isSome = true) : nL (s ++ 32 :: t) = nL s ++ 32 :: nL t := by
  have hb : (decR [32]).isSome = true := by rw [dec_blank]; rfl
  have h1 : nL ([32] ++ t) = nL [32] ++ nL t := nL_app hb ht
  have h3 : (decR ([32] ++ t)).isSome = true := by
    rw [dec_app dec_blank, Option.isSome_map]
    exact ht
  have h4 := nL_app hs h3
  rw [show s ++ 32 :: t = s ++ ([32] ++ t) from rfl, h4, h1]
  have : nL [32] = [32] := by unfold nL; rw [dec_blank]; rfl
  rw [this]
  rfl
theorem nFL_blank {s t : List UInt8} (hs : (decR s).isSome = true) (ht : (decR t).isSome = true) : nFL (s ++ 32 :: t) = nFL s ++ 32 :: nFL t := by
  unfold nFL
  rw [nL_blank hs ht, dc_blank, fold_app, fold_blank]
theorem nSL_blank {s t : List UInt8} (hs : (decR s).isSome = true) (ht : (decR t).isSome = true) : nSL (s ++ 32 :: t) = if nSL s = [] then nSL t else if nSL t = [] then nSL s else nSL s ++ 32 :: nSL t := by
  unfold nSL searchL
  rw [nFL_blank hs ht, List.flatMap_append, List.flatMap_cons, blank_facts.2.2.2.2]
  exact sq_app _ _
theorem encL_nil {l : List Nat} : encL l = [] ↔ l = [] := by
  constructor
  · intro h
    cases l with
    | nil => rfl
    | cons c l =>
      rw [show encL (c :: l) = encC c ++ encL l from rfl] at h
      exact absurd (List.append_eq_nil_iff.1 h).1 (encC_ne c)
  · rintro rfl; rfl
/-- One string more. -/
def joinStep (out x : List UInt8) : List UInt8 := if x ≠ [] ∧ out ≠ [] then out ++ 32 :: x else out ++ x
def nJoin (l : List (List UInt8)) : List UInt8 := l.foldl (fun out s => joinStep out (nSearch s)) []
theorem join_two {s t : List UInt8} (hs : (decR s).isSome = true) (ht : (decR t).isSome = true) : nSearch (s ++ 32 :: t) = nJoin [s, t] := by
  have e : nJoin [s, t] = joinStep (joinStep [] (nSearch s)) (nSearch t) := rfl
  have e1 : joinStep [] (nSearch s) = nSearch s := by
    unfold joinStep
    rw [if_neg (fun h => h.2 rfl)]
    rfl
  rw [e, e1]
  unfold joinStep nSearch
  rw [nSL_blank hs ht]
  have n1 : encL (nSL s) = [] ↔ nSL s = [] := encL_nil
  have n2 : encL (nSL t) = [] ↔ nSL t = [] := encL_nil
  by_cases h1 : nSL s = []
  · rw [if_pos h1, if_neg (fun h => h.2 (n1.2 h1)), n1.2 h1]
    rfl
  · rw [if_neg h1]
    by_cases h2 : nSL t = []
    · rw [if_pos h2, if_neg (fun h => h.1 (n2.2 h2)), n2.2 h2, List.append_nil]
    · rw [if_neg h2, if_pos ⟨fun h => h2 (n2.1 h), fun h => h1 (n1.1 h)⟩, encL_app]
      rfl

/-! Small letters. -/
theorem low_parts {c : Nat} (hc : hasN c = true) : lowN c = c ∨ (hasN (lowN c) = true ∧ lowN (lowN c) = lowN c ∧ ∃ b d ms, wholeR c = b :: ms ∧ wholeR (lowN c) = d :: ms ∧ clM b = 0 ∧ clM d = 0 ∧ low1 b = low1 d) := by
  have h := List.all_eq_true.1 chars_low c ((char_mem c).2 hc)
  unfold goodC at h
  rw [Bool.or_eq_true, Nat.beq_eq] at h
  rcases h with h | h
  · exact .inl h
  · right
    rw [Bool.and_eq_true, Bool.and_eq_true, Nat.beq_eq] at h
    obtain ⟨⟨h1, h2⟩, h3⟩ := h
    refine ⟨h1, h2, ?_⟩
    split at h3
    · rename_i b ms d ns e1 e2
      simp only [Bool.and_eq_true, Nat.beq_eq] at h3
      obtain ⟨⟨⟨g1, g2⟩, g3⟩, g4⟩ := h3
      have := eqB_eq g1
      subst this
      exact ⟨b, d, ms, e1, e2, by rw [clM_eq]; exact g2, by rw [clM_eq]; exact g3, eqB_eq g4⟩
    · cases h3
theorem low_low {c : Nat} (hc : hasN c = true) : lowN (lowN c) = lowN c := by
  rcases low_parts hc with h | h
  · rw [h, h]
  · exact h.2.1
theorem low_has {c : Nat} (hc : hasN c = true) : hasN (lowN c) = true := by
  rcases low_parts hc with h | h
  · rw [h]; exact hc
  · exact h.1
theorem dc_split (P Q : List Nat) {c b : Nat} {ms : List Nat} (hw : wholeR c = b :: ms) (hb : clM b = 0) : dcF (P ++ c :: Q) = dcF P ++ b :: (sortB clM [] (ms ++ Q.flatMap wholeR)).reverse := by
  have hc : clM c = 0 := by
    rcases Nat.eq_zero_or_pos (clM c) with h | h
    · exact h
    · have := whole_mark h
      rw [hw] at this
      injection this with e1 _
      rw [e1] at hb
      exact hb
  rw [dcF_join P (c :: Q) (fun x hx => by simp at hx; subst hx; exact hc)]
  congr 1
  unfold dcF
  rw [List.flatMap_cons, hw, List.cons_append, sort_first hb]
theorem fold_low (P Q : List Nat) {c : Nat} (hc : hasN c = true) : foldL (dcF (P ++ lowN c :: Q)) = foldL (dcF (P ++ c :: Q)) := by
  rcases low_parts hc with h | ⟨_, _, b, d, ms, e1, e2, h1, h2, h3⟩
  · rw [h]
  · rw [dc_split P Q e1 h1, dc_split P Q e2 h2, fold_app, fold_app]
    congr 1
    unfold foldL
    rw [List.flatMap_cons, List.flatMap_cons, h3]
theorem nFL_low (P Q : List Nat) {c : Nat} (hP : ∀ x ∈ P, hasN x = true) (hQ : ∀ x ∈ Q, hasN x = true) (hc : hasN c = true) : nFL (encL (P ++ lowN c :: Q)) = nFL (encL (P ++ c :: Q)) := by
  have g : ∀ y, hasN y = true → ∀ x ∈ P ++ y :: Q, okC x := by
    intro y hy x hx
    rcases List.mem_append.1 hx with hx | hx
    · exact ok_of_has (hP x hx)
    · rcases List.mem_cons.1 hx with rfl | hx
      · exact ok_of_has hy
      · exact ok_of_has (hQ x hx)
  unfold nFL
  rw [nL_enc (g _ (low_has hc)), nL_enc (g c hc), fold_low P Q hc]

/-! Added marks. -/
theorem ins_filter (c : Nat) : ∀ R : List Nat, (insB clM c R).filter (fun x => !isM x) = [c].filter (fun x => !isM x) ++ R.filter (fun x => !isM x)
  | [] => by rw [insB, List.filter_nil, List.append_nil]
  | p :: R => by
    rw [insB]
    split
    · rename_i h
      have h1 : isM p = true := isM_pos.2 (by omega)
      have h2 : isM c = true := isM_pos.2 h.1
      have e1 : (p :: insB clM c R).filter (fun x => !isM x) = (insB clM c R).filter fun x => !isM x := List.filter_cons_of_neg (by rw [h1]; simp)
      have e2 : (p :: R).filter (fun x => !isM x) = R.filter fun x => !isM x := List.filter_cons_of_neg (by rw [h1]; simp)
      rw [e1, e2, ins_filter c R]
    · rw [show c :: p :: R = [c] ++ p :: R from rfl, List.filter_append]
theorem sort_filter : ∀ (l R : List Nat), (sortB clM R l).filter (fun x => !isM x) = (l.filter fun x => !isM x).reverse ++ R.filter fun x => !isM x
  | [], R => by rw [sortB_nil, List.filter_nil]; rfl
  | c :: l, R => by
    rw [sortB_cons, sort_filter l, ins_filter, show c :: l = [c] ++ l from rfl, List.filter_append, List.reverse_append, List.append_assoc]
    congr 2
    by_cases h : isM c = true
    · rw [List.filter_cons_of_neg (by rw [h]; simp)]; rfl
    · rw [List.filter_cons_of_pos (by simpa using h)]; rfl
theorem dc_filter (l : List Nat) : (dcF l).filter (fun x => !isM x) = (l.flatMap wholeR).filter fun x => !isM x := by
  unfold dcF
  rw [List.filter_reverse, sort_filter, List.filter_nil, List.append_nil, List.reverse_reverse]
theorem mark_tok {c : Nat} (h : isM c = true) : (low1 c).flatMap tokL = [] := by
  have hk : isMarkA c = true := by
    have h0 := isM_pos.1 h
    rw [clM_eq] at h0
    unfold clF at h0
    split at h0
    · assumption
    · omega
  have key : ∀ x ∈ [768, 769, 770, 771, 772, 774, 775, 776, 778, 779, 780, 803, 807, 808], eqB ((low1 x).flatMap tokL) [] = true := by decide +kernel
  refine eqB_eq (key c ?_)
  unfold isMarkA inN at hk
  simp only [Bool.or_eq_true, Bool.and_eq_true, Nat.ble_eq, Nat.beq_eq] at hk
  simp only [List.mem_cons, List.not_mem_nil, or_false]
  omega
theorem tok_filter : ∀ d : List Nat, (foldL d).flatMap tokL = (foldL (d.filter fun x => !isM x)).flatMap tokL
  | [] => rfl
  | c :: d => by
    have ih := tok_filter d
    have e : foldL (c :: d) = low1 c ++ foldL d := List.flatMap_cons
    by_cases h : isM c = true
    · rw [List.filter_cons_of_neg (by rw [h]; simp), e, List.flatMap_append, mark_tok h, List.nil_append, ih]
    · have e2 : foldL (c :: d.filter fun x => !isM x) = low1 c ++ foldL (d.filter fun x => !isM x) := List.flatMap_cons
      rw [List.filter_cons_of_pos (by simpa using h), e, e2, List.flatMap_append, List.flatMap_append, ih]
theorem search_marks (P Q : List Nat) {m : Nat} (hm : isM m = true) : searchL (foldL (dcF (P ++ m :: Q))) = searchL (foldL (dcF (P ++ Q))) := by
  unfold searchL
  rw [tok_filter (dcF (P ++ m :: Q)), tok_filter (dcF (P ++ Q)), dc_filter, dc_filter, List.flatMap_append, List.flatMap_append, List.flatMap_cons, whole_mark (isM_pos.1 hm)]
  have e : (P.flatMap wholeR ++ ([m] ++ Q.flatMap wholeR)).filter (fun x => !isM x) = (P.flatMap wholeR ++ Q.flatMap wholeR).filter fun x => !isM x := by
    rw [List.filter_append, List.filter_append, List.filter_append, List.filter_cons_of_neg (by rw [hm]; simp)]
    rfl
  rw [e]
theorem three_marks {m : Nat} (h1 : 768 ≤ m) (h2 : m ≤ 770) : isM m = true ∧ hasN m = true := by
  have : m = 768 ∨ m = 769 ∨ m = 770 := by omega
  rcases this with rfl | rfl | rfl
  all_goals decide +kernel
theorem nSL_marks (P Q : List Nat) {m : Nat} (hP : ∀ x ∈ P, hasN x = true) (hQ : ∀ x ∈ Q, hasN x = true) (h1 : 768 ≤ m) (h2 : m ≤ 770) : nSL (encL (P ++ m :: Q)) = nSL (encL (P ++ Q)) := by
  have hm := three_marks h1 h2
  have g1 : ∀ x ∈ P ++ Q, okC x := by
    intro x hx
    rcases List.mem_append.1 hx with hx | hx
    · exact ok_of_has (hP x hx)
    · exact ok_of_has (hQ x hx)
  have g2 : ∀ x ∈ P ++ m :: Q, okC x := by
    intro x hx
    rcases List.mem_append.1 hx with hx | hx
    · exact ok_of_has (hP x hx)
    · rcases List.mem_cons.1 hx with rfl | hx
      · exact ok_of_has hm.2
      · exact ok_of_has (hQ x hx)
  unfold nSL nFL
  rw [nL_enc g1, nL_enc g2, search_marks P Q hm.1]

/-! Characters of search forms. -/
theorem good_lower {e : Nat} (h : GoodE e) : lowN e = e := by
  rcases low1_head e with g | ⟨_, g⟩
  · have := h.low
    rw [g] at this
    injection this
  · have := h.low
    rw [g] at this
    injection this with _ h2
    cases h2
/-- What the document says of the characters of a search form. -/
theorem search_chars (s : List UInt8) {i y : Nat} (h : (nSL s)[i]? = some y) : (y = 32 ∧ 0 < i ∧ i + 1 < (nSL s).length ∧ (nSL s)[i - 1]? ≠ some 32) ∨ (y ≠ 32 ∧ ((kN y = 3 ∧ y ≤ 57) ∨ (kN y = 1 ∧ lowN y = y))) := by
  rcases search_mem (dec_dc s) (List.mem_of_getElem? h) with rfl | g
  · exact .inl ⟨rfl, sq_blank h⟩
  · refine .inr ⟨g.nsp, ?_⟩
    have hl := g.ld
    unfold isLD at hl
    rw [Bool.or_eq_true, Nat.beq_eq, Nat.beq_eq] at hl
    rcases hl with hl | hl
    · exact .inr ⟨hl, good_lower g⟩
    · refine .inl ⟨hl, ?_⟩
      rcases g.dig with h2 | h2
      · omega
      · exact h2

end Go.Proofs.YtmgofhbdaopapaaDoor

namespace Go.Proofs.YtmgofhbdaopapaaDoor
open Go.RowKit

def validR (s : List UInt8) : Bool := decide (1 ≤ s.length) && decide (s.length ≤ 400) && decide (s[0]? ≠ some 32) && decide (s[s.length - 1]? ≠ some 32) && (decR s).isSome
theorem at32 {s : List UInt8} {k : Nat} (h : k < (str s).size) : s[k]? = some 32 ↔ (str s)[k].toNat = 32 := by
  rw [str_at s k h]
  constructor
  · intro h; simp at h; rw [h]; rfl
  · intro h
    have : (str s)[k] = 32 := UInt8.toNat_inj.1 h
    rw [this]

def cutR (s : List UInt8) (n : Int) : List UInt8 := if n < 1 then [] else match decR s with | some l => encL (l.take n.toNat) | none => []
theorem cutR_less {s : List UInt8} {n : Int} (h : n < 1) : cutR s n = [] := if_pos h
theorem cutR_none {s : List UInt8} {n : Int} (h : decR s = none) : cutR s n = [] := by unfold cutR; rw [h]; split <;> rfl
theorem cutR_some {s : List UInt8} {l : List Nat} {n : Int} (h : decR s = some l) (hn : ¬ n < 1) : cutR s n = encL (l.take n.toNat) := by unfold cutR; rw [h, if_neg hn]
end Go.Proofs.YtmgofhbdaopapaaDoor

namespace Go.Proofs.YtmgofhbdaopapaaDoor

/-! Blanks in bytes and in characters. -/
theorem encC_ascii {b : Nat} (hb : b < 128) {c : Nat} (h6 : c < 65536) : UInt8.ofNat b ∈ encC c ↔ c = b := by
  constructor
  · intro h
    by_cases hc : c < 128
    · rw [enc_one hc, List.mem_singleton] at h
      have h2 := congrArg UInt8.toNat h
      rw [UInt8.toNat_ofNat', UInt8.toNat_ofNat'] at h2
      omega
    · exfalso
      have hbig : ∀ x ∈ encC c, 128 ≤ x.toNat := by
        intro x hx
        unfold encC at hx
        rw [if_neg hc] at hx
        split at hx
        · simp only [List.mem_cons, List.not_mem_nil, or_false] at hx
          rcases hx with rfl | rfl <;> rw [UInt8.toNat_ofNat'] <;> omega
        · simp only [List.mem_cons, List.not_mem_nil, or_false] at hx
          rcases hx with rfl | rfl | rfl <;> rw [UInt8.toNat_ofNat'] <;> omega
      have h3 := hbig _ h
      rw [UInt8.toNat_ofNat'] at h3
      omega
  · rintro rfl
    rw [enc_one hb]
    exact List.mem_singleton.2 rfl
theorem mem_encL {b : UInt8} : ∀ {l : List Nat}, b ∈ encL l ↔ ∃ c ∈ l, b ∈ encC c
  | [] => by simp [encL]
  | c :: l => by
    rw [encL, List.mem_append, mem_encL]
    simp
theorem blank_mem {l : List Nat} (h : ∀ c ∈ l, okC c) : (32 : UInt8) ∈ encL l ↔ 32 ∈ l := by
  rw [mem_encL]
  constructor
  · rintro ⟨c, hc, hb⟩
    have := (encC_ascii (b := 32) (by decide) (h c hc).1).1 hb
    exact this ▸ hc
  · intro hc
    exact ⟨32, hc, (encC_ascii (b := 32) (by decide) (by decide)).2 rfl⟩
def wordN : List UInt8 → Nat
  | [] => 0
  | b :: t => if b = 32 then 0 else wordN t + 1
def blankN : List UInt8 → Nat
  | [] => 0
  | b :: t => if b = 32 then blankN t + 1 else 0
def spN (s : List UInt8) (k : Nat) : Nat := k + blankN (s.drop k)
theorem word_app {a : List UInt8} (t : List UInt8) (h : 32 ∉ a) : wordN (a ++ t) = a.length + wordN t := by
  induction a with
  | nil => simp
  | cons b a ih =>
    have h1 : b ≠ 32 := fun e => h (e ▸ List.mem_cons_self)
    rw [List.cons_append, wordN, if_neg h1, ih fun hm => h (List.mem_cons_of_mem _ hm), List.length_cons]
    omega
theorem word_split : ∀ s : List UInt8, ∃ t, s = s.take (wordN s) ++ t ∧ (t = [] ∨ ∃ u, t = 32 :: u) ∧ 32 ∉ s.take (wordN s) ∧ wordN s ≤ s.length
  | [] => ⟨[], rfl, .inl rfl, by simp [wordN], by simp [wordN]⟩
  | b :: s => by
    by_cases hb : b = 32
    · subst hb
      refine ⟨32 :: s, ?_, .inr ⟨s, rfl⟩, ?_, ?_⟩ <;> simp [wordN]
    · obtain ⟨t, h1, h2, h3, h4⟩ := word_split s
      refine ⟨t, ?_, h2, ?_, ?_⟩
      · rw [wordN, if_neg hb, List.take_succ_cons, List.cons_append, ← h1]
      · rw [wordN, if_neg hb, List.take_succ_cons]
        intro hm
        rcases List.mem_cons.1 hm with e | hm
        · exact hb e.symm
        · exact h3 hm
      · rw [wordN, if_neg hb, List.length_cons]; omega
theorem blank_split : ∀ t : List UInt8, ∃ u, t = List.replicate (blankN t) 32 ++ u ∧ u.head? ≠ some 32 ∧ blankN t + u.length = t.length
  | [] => ⟨[], rfl, by simp, rfl⟩
  | b :: t => by
    by_cases hb : b = 32
    · subst hb
      obtain ⟨u, h1, h2, h3⟩ := blank_split t
      refine ⟨u, ?_, h2, ?_⟩
      · rw [blankN, if_pos rfl, List.replicate_succ, List.cons_append, ← h1]
      · rw [blankN, if_pos rfl, List.length_cons]; omega
    · refine ⟨b :: t, ?_, ?_, ?_⟩
      · rw [blankN, if_neg hb]; rfl
      · simpa using hb
      · rw [blankN, if_neg hb]; simp
theorem blank_rep (k : Nat) {u : List UInt8} (h : u.head? ≠ some 32) : blankN (List.replicate k 32 ++ u) = k := by
  induction k with
  | zero =>
    cases u with
    | nil => rfl
    | cons b u =>
      have hb : b ≠ 32 := fun e => h (by rw [e]; rfl)
      show blankN (b :: u) = 0
      rw [blankN, if_neg hb]
  | succ k ih => rw [List.replicate_succ, List.cons_append, blankN, if_pos rfl, ih]
theorem rep_enc (k : Nat) : encL (List.replicate k 32) = List.replicate k (32 : UInt8) := by
  induction k with
  | zero => rfl
  | succ k ih => rw [List.replicate_succ, encL, ih]; rfl
theorem enc_split {p : List Nat} {t : List UInt8} {l : List Nat} (hp : ∀ c ∈ p, okC c) (h : decR (encL p ++ t) = some l) : ∃ m, l = p ++ m ∧ decR t = some m := by
  rw [dec_enc_app p hp t] at h
  obtain ⟨m, h1, h2⟩ := Option.map_eq_some_iff.1 h
  exact ⟨m, h2.symm, h1⟩
theorem ok_32 : okC 32 := by
  refine ⟨by decide, ?_⟩
  decide +kernel

theorem word_enc : ∀ (l : List Nat), (∀ c ∈ l, okC c) → ∃ q r, l = q ++ r ∧ 32 ∉ q ∧ (encL l).take (wordN (encL l)) = encL q
  | [], _ => ⟨[], [], rfl, by simp, rfl⟩
  | c :: l, h => by
    by_cases hc : c = 32
    · subst hc
      refine ⟨[], 32 :: l, rfl, by simp, ?_⟩
      show (32 :: encL l).take (wordN (32 :: encL l)) = []
      rw [wordN, if_pos rfl]
      rfl
    · obtain ⟨q, r, h1, h2, h3⟩ := word_enc l fun x hx => h x (List.mem_cons_of_mem _ hx)
      have hb : (32 : UInt8) ∉ encC c := fun hm => hc ((encC_ascii (b := 32) (by decide) (h c List.mem_cons_self).1).1 hm)
      refine ⟨c :: q, r, by rw [h1]; rfl, ?_, ?_⟩
      · intro hm
        rcases List.mem_cons.1 hm with e | hm
        · exact hc e.symm
        · exact h2 hm
      · rw [encL, word_app _ hb, List.take_append, List.take_of_length_le (by omega), Nat.add_sub_cancel_left, h3, encL]

/-! The tables. -/
def langT : List (List UInt8) := [[100, 97, 110], [100, 117, 116], [101, 110, 103], [102, 114, 101], [103, 101, 114], [103, 114, 101], [105, 116, 97], [112, 111, 114], [115, 112, 97], [115, 119, 101]]
def artT : List (List (List UInt8)) :=
  [[[101, 110], [101, 116], [100, 101, 110], [100, 101, 116]],
   [[100, 101], [104, 101, 116], [101, 101, 110], [39, 116]],
   [[116, 104, 101], [97], [97, 110]],
   [[108, 101], [108, 97], [108, 101, 115], [108, 39], [117, 110], [117, 110, 101], [100, 101, 115]],
   [[100, 101, 114], [100, 105, 101], [100, 97, 115], [101, 105, 110], [101, 105, 110, 101]],
   [[206, 191], [206, 183], [207, 132, 206, 191], [206, 191, 206, 185], [207, 132, 206, 177]],
   [[105, 108], [108, 111], [108, 97], [105], [103, 108, 105], [108, 101], [108, 39], [117, 110], [117, 110, 111], [117, 110, 97]],
   [[111], [97], [111, 115], [97, 115], [117, 109], [117, 109, 97]],
   [[101, 108], [108, 97], [108, 111, 115], [108, 97, 115], [117, 110], [117, 110, 97]],
   [[101, 110], [101, 116, 116], [100, 101, 110], [100, 101, 116]]]
def artsOf (lang : List UInt8) : List (List UInt8) := ((langT.zip artT).find? fun p => p.1 == lang).elim [] fun p => p.2
def apoB (a : List UInt8) : Bool := a.getLast? == some 39
def artHit (s : List UInt8) (word two : Nat) (a : List UInt8) : Option (Nat × Nat) :=
  if apoB a = true then (if nFold (s.take two) = a ∧ two < s.length ∧ s[two]? ≠ some 32 then some (two, two) else none)
  else (if nFold (s.take word) = a ∧ spN s word < s.length then some (word, spN s word) else none)
def hitsN (s : List UInt8) (l : List (List UInt8)) : Nat × Nat := (l.findSome? (artHit s (wordN s) (cutR s 2).length)).getD (0, 0)
def beginN (lang s : List UInt8) : Nat × Nat := if (decR s).isSome = true then hitsN s (artsOf lang) else (0, 0)
def skipN (lang s : List UInt8) : Nat := (beginN lang s).2
def stripN (lang s : List UInt8) : List UInt8 := s.drop (skipN lang s)
def invN (lang s : List UInt8) : List UInt8 := if (beginN lang s).2 = 0 then s else s.drop (beginN lang s).2 ++ [44, 32] ++ s.take (beginN lang s).1
def sortA (s : List UInt8) (k : Int) : List UInt8 :=
  match decR s with
  | none => s
  | some l => if k < 1 ∨ 9 < k ∨ (l.length : Int) ≤ k then s else if s.length ≤ spN s (cutR s k).length then s else s.drop (spN s (cutR s k).length)
theorem hit_some {s : List UInt8} {l : List (List UInt8)} (h : (hitsN s l).2 ≠ 0) : ∃ a ∈ l, artHit s (wordN s) (cutR s 2).length a = some (hitsN s l) := by
  unfold hitsN at h ⊢
  cases hf : l.findSome? (artHit s (wordN s) (cutR s 2).length) with
  | none => rw [hf] at h; exact absurd rfl h
  | some p =>
    obtain ⟨a, ha, h1⟩ := List.exists_of_findSome?_eq_some hf
    exact ⟨a, ha, h1⟩

/-- Where a title has an article: what stands in front of the rest. -/
theorem skip_split {lang s : List UInt8} (h : skipN lang s ≠ 0) :
    ∃ (p m : List Nat) (a : List UInt8), decR s = some (p ++ m) ∧ s = encL p ++ encL m ∧ (∀ c ∈ p, okC c) ∧ (encL p).length = skipN lang s ∧ p ≠ [] ∧ m ≠ [] ∧ (encL m).head? ≠ some 32 ∧ a ∈ artsOf lang ∧
      ((apoB a = true ∧ nFold (encL p) = a ∧ (beginN lang s).1 = skipN lang s) ∨ ∃ q k, p = q ++ List.replicate k 32 ∧ 0 < k ∧ nFold (encL q) = a ∧ 32 ∉ q ∧ (beginN lang s).1 = (encL q).length) := by
  unfold skipN beginN at h ⊢
  cases hd : (decR s).isSome with
  | false => rw [hd] at h; exact absurd rfl h
  | true =>
    rw [hd, if_pos rfl] at h
    simp only [if_true]
    obtain ⟨l, hl⟩ := Option.isSome_iff_exists.1 hd
    obtain ⟨hs, hok⟩ := enc_dec hl
    obtain ⟨a, ha, hit⟩ := hit_some h
    obtain ⟨N, hN⟩ : ∃ N, hitsN s (artsOf lang) = N := ⟨_, rfl⟩
    rw [hN] at h hit ⊢
    unfold artHit at hit
    by_cases hap : apoB a = true
    · rw [if_pos hap] at hit
      split at hit
      · rename_i hc
        injection hit with hit
        subst hit
        obtain ⟨h1, h2, h3⟩ := hc
        simp only at h
        have hcut : cutR s 2 = encL (l.take 2) := cutR_some hl (by decide)
        have hsp : s = encL (l.take 2) ++ encL (l.drop 2) := by rw [← encL_app, List.take_append_drop, hs]
        rw [hcut] at h h1 h2 h3 ⊢
        have htk : s.take (encL (l.take 2)).length = encL (l.take 2) := by
          conv => lhs; rw [hsp]
          exact List.take_left
        refine ⟨l.take 2, l.drop 2, a, ?_, hsp, fun c hc => hok c (List.mem_of_mem_take hc), rfl, ?_, ?_, ?_, ha, .inl ⟨hap, by rw [← htk]; exact h1, rfl⟩⟩
        · rw [hl, List.take_append_drop]
        · intro e; rw [e] at h; exact h rfl
        · intro e
          rw [e] at hsp
          rw [hsp] at h2
          simp [encL] at h2
        · intro e
          refine h3 ?_
          rw [hsp, List.getElem?_append_right (Nat.le_refl _), Nat.sub_self, ← List.head?_eq_getElem?]
          exact e
      · cases hit
    · rw [if_neg hap] at hit
      split at hit
      · rename_i hc
        injection hit with hit
        subst hit
        obtain ⟨h1, h2⟩ := hc
        simp only at h ⊢
        obtain ⟨t, t1, t2, t3, t4⟩ := word_split s
        obtain ⟨u, u1, u2, u3⟩ := blank_split t
        have hdt : s.drop (wordN s) = t := List.append_cancel_left ((List.take_append_drop (wordN s) s).trans t1)
        obtain ⟨q, r, q1, q2, q3⟩ := word_enc l hok
        rw [hs] at q3
        have hqo : ∀ c ∈ q, okC c := fun c hc => hok c (by rw [q1]; exact List.mem_append_left _ hc)
        have hpo : ∀ c ∈ q ++ List.replicate (blankN t) 32, okC c := fun c hc => by
          rcases List.mem_append.1 hc with hc | hc
          · exact hqo c hc
          · rw [(List.mem_replicate.1 hc).2]; exact ok_32
        have hse : s = encL (q ++ List.replicate (blankN t) 32) ++ u := by
          rw [encL_app, rep_enc, List.append_assoc, ← u1, ← q3]
          exact t1
        have hl2 := hl
        rw [hse] at hl2
        obtain ⟨m, m1, m2⟩ := enc_split hpo hl2
        obtain ⟨m3, m4⟩ := enc_dec m2
        have hW : (encL q).length = wordN s := by rw [← q3, List.length_take]; omega
        have hlen : (encL (q ++ List.replicate (blankN t) 32)).length = spN s (wordN s) := by
          rw [encL_app, List.length_append, hW, rep_enc, List.length_replicate]
          unfold spN
          rw [hdt]
        refine ⟨q ++ List.replicate (blankN t) 32, m, a, by rw [hl, m1], by rw [m3]; exact hse, hpo, hlen, ?_, ?_, by rw [m3]; exact u2, ha, .inr ⟨q, blankN t, rfl, ?_, by rw [← q3]; exact h1, q2, hW.symm⟩⟩
        · intro e
          rw [e] at hlen
          exact h hlen.symm
        · intro e
          rw [e] at m3
          rw [← hlen, hse, ← m3] at h2
          simp [encL] at h2
        · rcases t2 with e | ⟨v, e⟩
          · subst e
            rw [List.append_nil] at t1
            unfold spN at h2
            rw [hdt] at h2
            have h9 := congrArg List.length t1
            rw [List.length_take] at h9
            have h10 : blankN [] = 0 := rfl
            omega
          · rw [e, blankN, if_pos rfl]; omega
      · cases hit

end Go.Proofs.YtmgofhbdaopapaaDoor

namespace Go.Proofs.YtmgofhbdaopapaaDoor

theorem enc_head_len {m : List Nat} (h : m ≠ []) : 0 < (encL m).length := by
  cases m with
  | nil => exact absurd rfl h
  | cons c m =>
    have := (encC_len c).1
    rw [encL, List.length_append]
    omega
theorem blank_none {t : List UInt8} (h : t.head? ≠ some 32) : blankN t = 0 := by
  have := blank_rep 0 h
  simpa using this
theorem art_sort {lang s : List UInt8} (h : skipN lang s ≠ 0) (h9 : countR (s.take (skipN lang s)) ≤ 9) : sortA s (countR (s.take (skipN lang s)) : Int) = stripN lang s := by
  obtain ⟨p, m, a, h1, h2, h3, h4, h5, h6, h7, -⟩ := skip_split h
  unfold stripN
  rw [← h4] at h9 ⊢
  have htk : s.take (encL p).length = encL p := by
    conv => lhs; rw [h2]
    exact List.take_left
  have hdp : s.drop (encL p).length = encL m := by
    conv => lhs; rw [h2]
    exact List.drop_left
  have hct : countR (s.take (encL p).length) = p.length := by rw [htk, countR_some (dec_enc p h3)]
  rw [hct] at h9 ⊢
  have hp := List.length_pos_iff.2 h5
  have hm := List.length_pos_iff.2 h6
  have hcut : cutR s (p.length : Int) = encL p := by
    rw [cutR_some h1 (by omega)]
    simp
  have hsp : spN s (encL p).length = (encL p).length := by unfold spN; rw [hdp, blank_none h7]; rfl
  have hlen : (encL p).length < s.length := by
    rw [h2, List.length_append]
    have := enc_head_len h6
    omega
  unfold sortA
  rw [h1]
  simp only
  rw [if_neg (by rw [List.length_append]; omega), hcut, hsp, if_neg (by omega)]

/-- A string without the blanks at its end. -/
def trimB (s : List UInt8) : List UInt8 := (s.reverse.dropWhile (· == 32)).reverse
theorem trim_same {s : List UInt8} (h : s.getLast? ≠ some 32) : trimB s = s := by
  unfold trimB
  rw [← List.head?_reverse] at h
  cases hr : s.reverse with
  | nil => rw [List.reverse_eq_nil_iff.1 hr]; rfl
  | cons b t =>
    rw [hr] at h
    have hb : (b == 32) = false := by
      simp only [List.head?_cons, ne_eq, Option.some.injEq] at h
      simpa using h
    rw [List.dropWhile_cons, hb]
    simp only [Bool.false_eq_true, if_false]
    rw [← hr, List.reverse_reverse]
theorem trim_rep (s : List UInt8) (k : Nat) : trimB (s ++ List.replicate k 32) = trimB s := by
  unfold trimB
  rw [List.reverse_append, List.reverse_replicate]
  congr 1
  induction k with
  | zero => rfl
  | succ k ih => rw [List.replicate_succ, List.cons_append, List.dropWhile_cons]; simp only [beq_self_eq_true, if_true]; exact ih
theorem last_enc {p : List Nat} (hp : ∀ c ∈ p, okC c) (h : (encL p).getLast? = some 32) : ∃ q, p = q ++ [32] := by
  rcases List.eq_nil_or_concat p with e | ⟨q, c, e⟩
  · subst e; simp [encL] at h
  · rw [List.concat_eq_append] at e
    subst e
    rw [encL_app] at h
    have h1 : encL [c] = encC c := by simp [encL]
    rw [h1, List.getLast?_append] at h
    cases hx : (encC c).getLast? with
    | none => exact absurd (List.getLast?_eq_none_iff.1 hx) (encC_ne c)
    | some x =>
      rw [hx] at h
      have h2 : x = 32 := by simpa using h
      have hm := List.mem_of_getLast? hx
      rw [h2] at hm
      have hc := (encC_ascii (b := 32) (by decide) (hp c (by simp)).1).1 hm
      exact ⟨q, by rw [hc]⟩
theorem fold_enc {p : List Nat} (hp : ∀ c ∈ p, okC c) : nFold (encL p) = encL (foldL (dcF p)) := by
  unfold nFold nFL
  rw [nL_enc hp]
theorem fold_last (q : List Nat) : foldL (dcF (q ++ [32])) = foldL (dcF q) ++ [32] := by
  have hb := blank_facts
  rw [dcF_join q [32] (fun c hc => by simp at hc; subst hc; exact hb.2.2.1), dcF_one, hb.2.1]
  unfold foldL
  rw [List.flatMap_append]
  simp [hb.2.2.2.1]
theorem arts_last : ∀ {lang a : List UInt8}, a ∈ artsOf lang → a.getLast? ≠ some 32 := by
  intro lang a ha
  have hall : (artT.all fun l => l.all fun a => !(a.getLast? == some 32)) = true := by decide +kernel
  unfold artsOf at ha
  cases hf : (langT.zip artT).find? fun p => p.1 == lang with
  | none => rw [hf] at ha; cases ha
  | some p =>
    rw [hf] at ha
    have hp := (List.of_mem_zip (List.mem_of_find?_eq_some hf)).2
    have h1 := List.all_eq_true.1 (List.all_eq_true.1 hall _ hp) a ha
    intro e
    rw [e] at h1
    cases h1
theorem art_rest {lang s : List UInt8} (h : skipN lang s ≠ 0) : skipN lang s < s.length ∧ s[skipN lang s]? ≠ some 32 ∧ nFold (trimB (s.take (skipN lang s))) ∈ artsOf lang ∧ ∃ t, invN lang s = s.drop (skipN lang s) ++ [44, 32] ++ t := by
  obtain ⟨p, m, a, h1, h2, h3, h4, h5, h6, h7, h8, hcase⟩ := skip_split h
  have htk : s.take (encL p).length = encL p := by
    conv => lhs; rw [h2]
    exact List.take_left
  have hinv : ∃ t, invN lang s = s.drop (skipN lang s) ++ [44, 32] ++ t := ⟨s.take (beginN lang s).1, by have h' : ¬ (beginN lang s).2 = 0 := h; unfold invN; rw [if_neg h']; rfl⟩
  rw [← h4] at hinv ⊢
  refine ⟨?_, ?_, ?_, hinv⟩
  · rw [h2, List.length_append]
    have := enc_head_len h6
    omega
  · intro e
    refine h7 ?_
    rw [h2, List.getElem?_append_right (Nat.le_refl _), Nat.sub_self, ← List.head?_eq_getElem?] at e
    exact e
  · rw [htk]
    rcases hcase with ⟨_, g2, _⟩ | ⟨q, k, e, hk, g2, g3, _⟩
    · have hl : (encL p).getLast? ≠ some 32 := fun e => by
        obtain ⟨q, rfl⟩ := last_enc h3 e
        rw [fold_enc h3, fold_last, encL_app] at g2
        refine arts_last h8 ?_
        rw [← g2]
        simp [encL, encC]
      rw [trim_same hl, g2]
      exact h8
    · subst e
      have hq : ∀ c ∈ q, okC c := fun c hc => h3 c (List.mem_append_left _ hc)
      rw [encL_app, rep_enc, trim_rep, trim_same, g2]
      · exact h8
      · intro e
        obtain ⟨q', rfl⟩ := last_enc hq e
        exact g3 (by simp)

end Go.Proofs.YtmgofhbdaopapaaDoor

namespace Go.Proofs.YtmgofhbdaopapaaDoor

/-- A character whose folded form holds an apostrophe is one, or the wide one. -/
def apoC (c : Nat) : Bool := !(((wholeR c).flatMap low1).contains 39) || Nat.beq c 39 || Nat.beq c 65287
theorem chars_apo : (charL.all apoC) = true := by kernel_rfl
theorem apo_char {c : Nat} (h : hasN c = true) (hm : 39 ∈ (wholeR c).flatMap low1) : c = 39 ∨ c = 65287 := by
  have h1 := List.all_eq_true.1 chars_apo c ((char_mem c).2 h)
  unfold apoC at h1
  rw [List.contains_iff_mem.2 hm] at h1
  simpa using h1
theorem fold_mem39 {p : List Nat} (hp : ∀ c ∈ p, hasN c = true) (h : 39 ∈ foldL (dcF p)) : ∃ c ∈ p, c = 39 ∨ c = 65287 := by
  unfold foldL at h
  obtain ⟨y, hy, h1⟩ := List.mem_flatMap.1 h
  obtain ⟨c, hc, h2⟩ := mem_dcF.1 hy
  exact ⟨c, hc, apo_char (hp c hc) (List.mem_flatMap.2 ⟨y, h2, h1⟩)⟩
theorem fold_ok {p : List Nat} (hp : ∀ c ∈ p, okC c) : ∀ y ∈ foldL (dcF p), y < 65536 := by
  have h := nFL_dec (encL p)
  unfold nFL at h
  rw [nL_enc hp] at h
  exact fun y hy => (ok_of_has (h.1 y hy)).1
theorem apo_mem {a : List UInt8} (h : apoB a = true) : (39 : UInt8) ∈ a := by
  unfold apoB at h
  exact List.mem_of_getLast? (by simpa using h)
theorem art_others {lang s : List UInt8} (h : artsOf lang = [] ∨ (32 ∉ s ∧ 39 ∉ s ∧ ¬ ∃ a b, s = a ++ [239, 188, 135] ++ b)) : skipN lang s = 0 ∧ stripN lang s = s ∧ invN lang s = s := by
  have h0 : skipN lang s = 0 := by
    by_cases hz : skipN lang s = 0
    · exact hz
    · exfalso
      obtain ⟨p, m, a, h1, h2, h3, h4, h5, h6, h7, h8, hcase⟩ := skip_split hz
      rcases h with h | ⟨n1, n2, n3⟩
      · rw [h] at h8; cases h8
      · rcases hcase with ⟨g1, g2, _⟩ | ⟨q, k, e, hk, _⟩
        · have hm := apo_mem g1
          rw [← g2, fold_enc h3, mem_encL] at hm
          obtain ⟨y, hy, h39⟩ := hm
          have hyy := (encC_ascii (b := 39) (by decide) (fold_ok h3 y hy)).1 h39
          rw [hyy] at hy
          have hhas : ∀ c ∈ p, hasN c = true := fun c hc => by
            have h9 := h3 c hc
            have hk9 := h9.2
            rw [← hasN_eq]
            show (kindR (c : Int) != 0) = true
            simpa using hk9
          obtain ⟨c, hc, hcc⟩ := fold_mem39 hhas hy
          rcases hcc with rfl | rfl
          · refine n2 ?_
            rw [h2]
            exact List.mem_append_left _ (mem_encL.2 ⟨39, hc, (encC_ascii (b := 39) (by decide) (by decide)).2 rfl⟩)
          · refine n3 ?_
            obtain ⟨p1, p2, rfl⟩ := List.append_of_mem hc
            refine ⟨encL p1, encL p2 ++ encL m, ?_⟩
            rw [h2, encL_app, encL, show encC 65287 = [239, 188, 135] by decide]
            simp
        · refine n1 ?_
          subst e
          rw [h2, encL_app, rep_enc]
          refine List.mem_append_left _ (List.mem_append_right _ ?_)
          exact List.mem_replicate.2 ⟨by omega, rfl⟩
  refine ⟨h0, ?_, ?_⟩
  · unfold stripN; rw [h0]; rfl
  · have h0' : (beginN lang s).2 = 0 := h0
    unfold invN
    rw [if_pos h0']

end Go.Proofs.YtmgofhbdaopapaaDoor
