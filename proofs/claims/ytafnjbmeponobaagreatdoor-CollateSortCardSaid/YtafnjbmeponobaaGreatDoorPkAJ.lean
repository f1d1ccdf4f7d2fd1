/-
  Joining, small letters, added marks, characters of search forms in plain mathematics.
  The reference's Search, Is, Alike.
  The reference's Is, Alike of fold.
  Comparing lists of numbers, and its bytes.
-/
import Derived.Test.YtafnjbmeponobaaGreatDoorPkAH
import Derived.Test.YtafnjbmeponobaaGreatDoorPkAI
import Derived.ProofKit
namespace Go.Proofs.YtafnjbmeponobaaGreatDoor

theorem ins_one (c x : Nat) (hx : clM x = 0) : ∀ A : List Nat, insB clM c (A ++ [x]) = insB clM c A ++ [x]
  | [] => by
    have h : ¬ (0 < clM c ∧ clM c < clM x) := by omega
    show (if 0 < clM c ∧ clM c < clM x then _ else _) = _
    rw [if_neg h]
    rfl
  | p :: A => by
    rw [List.cons_append, insB, insB]
    split
    · rw [ins_one c x hx A]; rfl
    · rfl
theorem sort_one (x : Nat) (hx : clM x = 0) : ∀ (l A : List Nat), sortB clM (A ++ [x]) l = sortB clM A l ++ [x]
  | [], _ => rfl
  | c :: l, A => by rw [sortB_cons, sortB_cons, ins_one c x hx A, sort_one x hx l]
theorem sort_first {b : Nat} (hb : clM b = 0) (X : List Nat) : (sortB clM [] (b :: X)).reverse = b :: (sortB clM [] X).reverse := by
  have h := sort_one b hb X []
  rw [sortB_cons, show insB clM b [] = [] ++ [b] from rfl, h, List.reverse_append]
  rfl
theorem dc_blank (l m : List Nat) : dcF (l ++ 32 :: m) = dcF l ++ 32 :: dcF m := by
  rw [dcF_join l (32 :: m) (fun c hc => by simp at hc; subst hc; exact blank_facts.2.2.1)]
  congr 1
  unfold dcF
  rw [List.flatMap_cons, blank_facts.2.1, List.singleton_append, sort_first blank_facts.2.2.1]
theorem fold_app (a b : List Nat) : foldL (a ++ b) = foldL a ++ foldL b := List.flatMap_append
theorem fold_blank (b : List Nat) : foldL (32 :: b) = 32 :: foldL b := by
  unfold foldL
  rw [List.flatMap_cons, blank_facts.2.2.2.1]
  rfl
theorem dec_blank : decR [32] = some [32] := by
  have h := dec_enc [32] (fun c hc => by rw [List.mem_singleton.1 hc]; exact ok_of_has blank_facts.1)
  exact h
theorem nL_blank {s t : List UInt8} (hs : (decR s).isSome = true) (ht : (decR t).isSome = true) : nL (s ++ 32 :: t) = nL s ++ 32 :: nL t := by
  have hb : (decR [32]).isSome = true := by rw [dec_blank]; rfl
  have h1 : nL ([32] ++ t) = nL [32] ++ nL t := nL_app hb ht
  have h3 : (decR ([32] ++ t)).isSome = true := by
    rw [dec_app dec_blank, Option.isSome_map]
    exact ht
  have h4 := nL_app hs h3
  rw [show s ++ 32 :: t = s ++ ([32] ++ t) from rfl, h4, h1]
  have : nL [32] = [32] := by unfold nL; rw [dec_blank]; rfl
  rw [this]
  rfl
theorem nFL_blank {s t : List UInt8} (hs : (decR s).isSome = true) (ht : (decR t).isSome = true) : nFL (s ++ 32 :: t) = nFL s ++ 32 :: nFL t := by
  unfold nFL
  rw [nL_blank hs ht, dc_blank, fold_app, fold_blank]
theorem nSL_blank {s t : List UInt8} (hs : (decR s).isSome = true) (ht : (decR t).isSome = true) : nSL (s ++ 32 :: t) = if nSL s = [] then nSL t else if nSL t = [] then nSL s else nSL s ++ 32 :: nSL t := by
  unfold nSL searchL
  rw [nFL_blank hs ht, List.flatMap_append, List.flatMap_cons, blank_facts.2.2.2.2]
  exact sq_app _ _
theorem encL_nil {l : List Nat} : encL l = [] ↔ l = [] := by
  constructor
  · intro h
    cases l with
    | nil => rfl
    | cons c l =>
      rw [show encL (c :: l) = encC c ++ encL l from rfl] at h
      exact absurd (List.append_eq_nil_iff.1 h).1 (encC_ne c)
  · rintro rfl; rfl
/-- One string more. -/
def joinStep (out x : List UInt8) : List UInt8 := if x ≠ [] ∧ out ≠ [] then out ++ 32 :: x else out ++ x
def nJoin (l : List (List UInt8)) : List UInt8 := l.foldl (fun out s => joinStep out (nSearch s)) []
theorem join_two {s t : List UInt8} (hs : (decR s).isSome = true) (ht : (decR t).isSome = true) : nSearch (s ++ 32 :: t) = nJoin [s, t] := by
  have e : nJoin [s, t] = joinStep (joinStep [] (nSearch s)) (nSearch t) := rfl
  have e1 : joinStep [] (nSearch s) = nSearch s := by
    unfold joinStep
    rw [if_neg (fun h => h.2 rfl)]
    rfl
  rw [e, e1]
  unfold joinStep nSearch
  rw [nSL_blank hs ht]
  have n1 : encL (nSL s) = [] ↔ nSL s = [] := encL_nil
  have n2 : encL (nSL t) = [] ↔ nSL t = [] := encL_nil
  by_cases h1 : nSL s = []
  · rw [if_pos h1, if_neg (fun h => h.2 (n1.2 h1)), n1.2 h1]
    rfl
  · rw [if_neg h1]
    by_cases h2 : nSL t = []
    · rw [if_pos h2, if_neg (fun h => h.1 (n2.2 h2)), n2.2 h2, List.append_nil]
    · rw [if_neg h2, if_pos ⟨fun h => h2 (n2.1 h), fun h => h1 (n1.1 h)⟩, encL_app]
      rfl

/-! Small letters. -/
theorem low_parts {c : Nat} (hc : hasN c = true) : lowN c = c ∨ (hasN (lowN c) = true ∧ lowN (lowN c) = lowN c ∧ ∃ b d ms, wholeR c = b :: ms ∧ wholeR (lowN c) = d :: ms ∧ clM b = 0 ∧ clM d = 0 ∧ low1 b = low1 d) := by
  have h := List.all_eq_true.1 chars_low c ((char_mem c).2 hc)
  unfold goodC at h
  rw [Bool.or_eq_true, Nat.beq_eq] at h
  rcases h with h | h
  · exact .inl h
  · right
    rw [Bool.and_eq_true, Bool.and_eq_true, Nat.beq_eq] at h
    obtain ⟨⟨h1, h2⟩, h3⟩ := h
    refine ⟨h1, h2, ?_⟩
    split at h3
    · rename_i b ms d ns e1 e2
      simp only [Bool.and_eq_true, Nat.beq_eq] at h3
      obtain ⟨⟨⟨g1, g2⟩, g3⟩, g4⟩ := h3
      have := eqB_eq g1
      subst this
      exact ⟨b, d, ms, e1, e2, by rw [clM_eq]; exact g2, by rw [clM_eq]; exact g3, eqB_eq g4⟩
    · cases h3
theorem low_low {c : Nat} (hc : hasN c = true) : lowN (lowN c) = lowN c := by
  rcases low_parts hc with h | h
  · rw [h, h]
  · exact h.2.1
theorem low_has {c : Nat} (hc : hasN c = true) : hasN (lowN c) = true := by
  rcases low_parts hc with h | h
  · rw [h]; exact hc
  · exact h.1
theorem dc_split (P Q : List Nat) {c b : Nat} {ms : List Nat} (hw : wholeR c = b :: ms) (hb : clM b = 0) : dcF (P ++ c :: Q) = dcF P ++ b :: (sortB clM [] (ms ++ Q.flatMap wholeR)).reverse := by
  have hc : clM c = 0 := by
    rcases Nat.eq_zero_or_pos (clM c) with h | h
    · exact h
    · have := whole_mark h
      rw [hw] at this
      injection this with e1 _
      rw [e1] at hb
      exact hb
  rw [dcF_join P (c :: Q) (fun x hx => by simp at hx; subst hx; exact hc)]
  congr 1
  unfold dcF
  rw [List.flatMap_cons, hw, List.cons_append, sort_first hb]
theorem fold_low (P Q : List Nat) {c : Nat} (hc : hasN c = true) : foldL (dcF (P ++ lowN c :: Q)) = foldL (dcF (P ++ c :: Q)) := by
  rcases low_parts hc with h | ⟨_, _, b, d, ms, e1, e2, h1, h2, h3⟩
  · rw [h]
  · rw [dc_split P Q e1 h1, dc_split P Q e2 h2, fold_app, fold_app]
    congr 1
    unfold foldL
    rw [List.flatMap_cons, List.flatMap_cons, h3]
theorem nFL_low (P Q : List Nat) {c : Nat} (hP : ∀ x ∈ P, hasN x = true) (hQ : ∀ x ∈ Q, hasN x = true) (hc : hasN c = true) : nFL (encL (P ++ lowN c :: Q)) = nFL (encL (P ++ c :: Q)) := by
  have g : ∀ y, hasN y = true → ∀ x ∈ P ++ y :: Q, okC x := by
    intro y hy x hx
    rcases List.mem_append.1 hx with hx | hx
    · exact ok_of_has (hP x hx)
    · rcases List.mem_cons.1 hx with rfl | hx
      · exact ok_of_has hy
      · exact ok_of_has (hQ x hx)
  unfold nFL
  rw [nL_enc (g _ (low_has hc)), nL_enc (g c hc), fold_low P Q hc]

/-! Added marks. -/
theorem ins_filter (c : Nat) : ∀ R : List Nat, (insB clM c R).filter (fun x => !isM x) = [c].filter (fun x => !isM x) ++ R.filter (fun x => !isM x)
  | [] => by rw [insB, List.filter_nil, List.append_nil]
  | p :: R => by
    rw [insB]
    split
    · rename_i h
      have h1 : isM p = true := isM_pos.2 (by omega)
      have h2 : isM c = true := isM_pos.2 h.1
      have e1 : (p :: insB clM c R).filter (fun x => !isM x) = (insB clM c R).filter fun x => !isM x := List.filter_cons_of_neg (by rw [h1]; simp)
      have e2 : (p :: R).filter (fun x => !isM x) = R.filter fun x => !isM x := List.filter_cons_of_neg (by rw [h1]; simp)
      rw [e1, e2, ins_filter c R]
    · rw [show c :: p :: R = [c] ++ p :: R from rfl, List.filter_append]
theorem sort_filter : ∀ (l R : List Nat), (sortB clM R l).filter (fun x => !isM x) = (l.filter fun x => !isM x).reverse ++ R.filter fun x => !isM x
  | [], R => by rw [sortB_nil, List.filter_nil]; rfl
  | c :: l, R => by
    rw [sortB_cons, sort_filter l, ins_filter, show c :: l = [c] ++ l from rfl, List.filter_append, List.reverse_append, List.append_assoc]
    congr 2
    by_cases h : isM c = true
    · rw [List.filter_cons_of_neg (by rw [h]; simp)]; rfl
    · rw [List.filter_cons_of_pos (by simpa using h)]; rfl
theorem dc_filter (l : List Nat) : (dcF l).filter (fun x => !isM x) = (l.flatMap wholeR).filter fun x => !isM x := by
  unfold dcF
  rw [List.filter_reverse, sort_filter, List.filter_nil, List.append_nil, List.reverse_reverse]
theorem mark_tok {c : Nat} (h : isM c = true) : (low1 c).flatMap tokL = [] := by
  have hk : isMarkA c = true := by
    have h0 := isM_pos.1 h
    rw [clM_eq] at h0
    unfold clF at h0
    split at h0
    · assumption
    · omega
  have key : ∀ x ∈ [768, 769, 770, 771, 772, 774, 775, 776, 778, 779, 780, 803, 807, 808], eqB ((low1 x).flatMap tokL) [] = true := by decide +kernel
  refine eqB_eq (key c ?_)
  unfold isMarkA inN at hk
  simp only [Bool.or_eq_true, Bool.and_eq_true, Nat.ble_eq, Nat.beq_eq] at hk
  simp only [List.mem_cons, List.not_mem_nil, or_false]
  omega
theorem tok_filter : ∀ d : List Nat, (foldL d).flatMap tokL = (foldL (d.filter fun x => !isM x)).flatMap tokL
  | [] => rfl
  | c :: d => by
    have ih := tok_filter d
    have e : foldL (c :: d) = low1 c ++ foldL d := List.flatMap_cons
    by_cases h : isM c = true
    · rw [List.filter_cons_of_neg (by rw [h]; simp), e, List.flatMap_append, mark_tok h, List.nil_append, ih]
    · have e2 : foldL (c :: d.filter fun x => !isM x) = low1 c ++ foldL (d.filter fun x => !isM x) := List.flatMap_cons
      rw [List.filter_cons_of_pos (by simpa using h), e, e2, List.flatMap_append, List.flatMap_append, ih]
theorem search_marks (P Q : List Nat) {m : Nat} (hm : isM m = true) : searchL (foldL (dcF (P ++ m :: Q))) = searchL (foldL (dcF (P ++ Q))) := by
  unfold searchL
  rw [tok_filter (dcF (P ++ m :: Q)), tok_filter (dcF (P ++ Q)), dc_filter, dc_filter, List.flatMap_append, List.flatMap_append, List.flatMap_cons, whole_mark (isM_pos.1 hm)]
  have e : (P.flatMap wholeR ++ ([m] ++ Q.flatMap wholeR)).filter (fun x => !isM x) = (P.flatMap wholeR ++ Q.flatMap wholeR).filter fun x => !isM x := by
    rw [List.filter_append, List.filter_append, List.filter_append, List.filter_cons_of_neg (by rw [hm]; simp)]
    rfl
  rw [e]
theorem three_marks {m : Nat} (h1 : 768 ≤ m) (h2 : m ≤ 770) : isM m = true ∧ hasN m = true := by
  have : m = 768 ∨ m = 769 ∨ m = 770 := by omega
  rcases this with rfl | rfl | rfl
  all_goals decide +kernel
theorem nSL_marks (P Q : List Nat) {m : Nat} (hP : ∀ x ∈ P, hasN x = true) (hQ : ∀ x ∈ Q, hasN x = true) (h1 : 768 ≤ m) (h2 : m ≤ 770) : nSL (encL (P ++ m :: Q)) = nSL (encL (P ++ Q)) := by
  have hm := three_marks h1 h2
  have g1 : ∀ x ∈ P ++ Q, okC x := by
    intro x hx
    rcases List.mem_append.1 hx with hx | hx
    · exact ok_of_has (hP x hx)
    · exact ok_of_has (hQ x hx)
  have g2 : ∀ x ∈ P ++ m :: Q, okC x := by
    intro x hx
    rcases List.mem_append.1 hx with hx | hx
    · exact ok_of_has (hP x hx)
    · rcases List.mem_cons.1 hx with rfl | hx
      · exact ok_of_has hm.2
      · exact ok_of_has (hQ x hx)
  unfold nSL nFL
  rw [nL_enc g1, nL_enc g2, search_marks P Q hm.1]

/-! Characters of search forms. -/
theorem good_lower {e : Nat} (h : GoodE e) : lowN e = e := by
  rcases low1_head e with g | ⟨_, g⟩
  · have := h.low
    rw [g] at this
    injection this
  · have := h.low
    rw [g] at this
    injection this with _ h2
    cases h2
/-- What the document says of the characters of a search form. -/
theorem search_chars (s : List UInt8) {i y : Nat} (h : (nSL s)[i]? = some y) : (y = 32 ∧ 0 < i ∧ i + 1 < (nSL s).length ∧ (nSL s)[i - 1]? ≠ some 32) ∨ (y ≠ 32 ∧ ((kN y = 3 ∧ y ≤ 57) ∨ (kN y = 1 ∧ lowN y = y))) := by
  rcases search_mem (dec_dc s) (List.mem_of_getElem? h) with rfl | g
  · exact .inl ⟨rfl, sq_blank h⟩
  · refine .inr ⟨g.nsp, ?_⟩
    have hl := g.ld
    unfold isLD at hl
    rw [Bool.or_eq_true, Nat.beq_eq, Nat.beq_eq] at hl
    rcases hl with hl | hl
    · exact .inr ⟨hl, good_lower g⟩
    · refine .inl ⟨hl, ?_⟩
      rcases g.dig with h2 | h2
      · omega
      · exact h2

end Go.Proofs.YtafnjbmeponobaaGreatDoor

namespace Go.Proofs.YtafnjbmeponobaaGreatDoor
open Go.RowKit

/-! The loop of Search: what is out, whether a blank is due, what is left. -/
theorem sqT_word (R : List Nat) : ∀ p : List Nat, (∀ y ∈ p, y ≠ 32) → sqT false (p ++ R) = p ++ sqT false R
  | [], _ => rfl
  | y :: p, h => by rw [List.cons_append, sqT_f (h y (by simp)), sqT_word R p fun z hz => h z (by simp [hz])]; rfl
def sqz (O : List Nat) (sp : Bool) (R : List Nat) : List Nat := if O = [] then sq R else O ++ sqT sp R
theorem sqz_nil (O : List Nat) (sp : Bool) : sqz O sp [] = O := by
  unfold sqz
  by_cases h : O = []
  · rw [if_pos h, h]; rfl
  · rw [if_neg h]; simp [sqT]
theorem sqz_sp (O : List Nat) (sp : Bool) (R : List Nat) : sqz O sp (32 :: R) = sqz O true R := by unfold sqz; rw [sq_sp, sqT_sp]
theorem sqz_f {O : List Nat} {sp : Bool} {p : List Nat} (hp : p ≠ [] ∧ ∀ y ∈ p, y ≠ 32) (h : O = [] ∨ sp = false) (R : List Nat) : sqz O sp (p ++ R) = sqz (O ++ p) false R := by
  obtain ⟨y, q, rfl⟩ : ∃ y q, p = y :: q := by
    cases p with
    | nil => exact absurd rfl hp.1
    | cons y q => exact ⟨y, q, rfl⟩
  have hq : ∀ z ∈ q, z ≠ 32 := fun z hz => hp.2 z (by simp [hz])
  unfold sqz
  rw [if_neg (show ¬ O ++ y :: q = [] by simp)]
  by_cases h0 : O = []
  · subst h0
    rw [if_pos rfl, List.cons_append, sq_cons (hp.2 y (by simp)), sqT_word R q hq]
    rfl
  · have hs : sp = false := h.resolve_left h0
    subst hs
    rw [if_neg h0, sqT_word R (y :: q) hp.2, List.append_assoc]
theorem sqz_t {O p : List Nat} (hp : p ≠ [] ∧ ∀ y ∈ p, y ≠ 32) (h : O ≠ []) (R : List Nat) : sqz O true (p ++ R) = sqz ((O ++ [32]) ++ p) false R := by
  obtain ⟨y, q, rfl⟩ : ∃ y q, p = y :: q := by
    cases p with
    | nil => exact absurd rfl hp.1
    | cons y q => exact ⟨y, q, rfl⟩
  have hq : ∀ z ∈ q, z ≠ 32 := fun z hz => hp.2 z (by simp [hz])
  unfold sqz
  rw [if_neg h, if_neg (show ¬ (O ++ [32]) ++ y :: q = [] by simp), List.cons_append, sqT_t (hp.2 y (by simp)), sqT_word R q hq]
  simp
theorem pl_nsp : ∀ x ∈ plL, x.2 ≠ 32 := by decide
theorem lkN_in (ps : List (Nat × Nat)) (c : Nat) : lkN ps c = 0 ∨ ∃ x ∈ ps, lkN ps c = x.2 := by
  unfold lkN
  cases hf : ps.find? fun x => Nat.beq x.1 c with
  | none => exact .inl rfl
  | some x => exact .inr ⟨x, List.mem_of_find?_eq_some hf, rfl⟩
theorem plain_word {c : Nat} (h : c ≠ 32) : plainL c ≠ [] ∧ ∀ y ∈ plainL c, y ≠ 32 := by
  rw [plain_if]
  split
  · decide
  split
  · decide
  split
  · decide
  split
  · decide
  split
  · simpa using h
  · rcases lkN_in plL c with h1 | ⟨x, h1, h2⟩
    · contradiction
    · rw [h2]
      simpa using pl_nsp x h1
theorem plain_len (c : Nat) : (plainL c).length ≤ 2 := by
  rw [plain_if]
  repeat' split
  all_goals simp
theorem ld_nsp {c : Nat} (h : isLD c = true) : c ≠ 32 := by
  intro e
  rw [e] at h
  have : isLD 32 = false := by decide +kernel
  rw [this] at h
  cases h
theorem drop_at6 {l : List Nat} {k x : Nat} (h : l[k]? = some x) : l.drop k = x :: l.drop (k + 1) := by
  obtain ⟨hl, he⟩ := List.getElem?_eq_some_iff.1 h
  rw [List.drop_eq_getElem_cons hl, he]

set_option maxRecDepth 20000 in
set_option maxHeartbeats 6400000 in
theorem refSearch_any (s : List UInt8) (w : World) (hlen : s.length ≤ 60000) :
    Calls Tryz.prog 66 #[.string (str s)] w fun e w' => e = .returned (.string (str (nSearch s))) ∧ Below w.heap.size w w' := by
  have HD0 := refFolded_any s w (by omega)
  obtain ⟨R, hR⟩ : ∃ R, nSearch s = R := ⟨_, rfl⟩
  rw [hR]
  have hl1 := nFL_len s
  have HR0 : nSearch s = encL (searchL (nFL s)) := rfl
  have HOK0 := dec_ok (nSL_dec s)
  rw [hR] at HR0
  unfold nSL at HOK0
  obtain ⟨l, hl⟩ : ∃ l, nFL s = l := ⟨_, rfl⟩
  rw [hl] at HD0 hl1 HR0 HOK0
  obtain ⟨n, hn⟩ : ∃ n, l.length = n := ⟨_, rfl⟩
  have hll : n ≤ 240000 := by omega
  have HR := Lib.hid HR0
  have HOK := Lib.hid HOK0
  have HD := Lib.hid HD0
  have HL := Lib.hid hn
  clear hR hl1 HR0 HOK0 hl HD0
  go_enter Tryz.func66, Tryz.ntmps66
  go_wp2_with fail
  refine HD.out.mono ?_
  rintro e w1 ⟨v, rfl, hown, hb1⟩
  have hA := Arr.of_own hown
  obtain ⟨A, c, rfl⟩ := hA.form
  rw [hn] at hA ⊢
  clear hn hown HD
  go_wp2
  go_loopw [4, 5, 6] (fun v s i wr => ∃ (k : Nat) (O : List Nat) (sp : Bool), k ≤ n ∧ i = .int .i64 (k : Int) ∧ s = .bool sp ∧ O.length ≤ 3 * k ∧ Hid (searchL l = sqz O sp ((l.drop k).flatMap tokL)) ∧ wr.ownsRow w1.heap.size 3 1 v O.length (O.map nv) ∧ Below w1.heap.size w1 wr) (fun _ _ i _ => n - (intOf i).toNat)
  case atStart => exact ⟨0, [], false, by omega, rfl, rfl, by simp, Lib.hid (by unfold sqz; rw [if_pos rfl]; rfl), World.ownsRow_nil _ _ _ _, Below.refl _ _⟩
  case round =>
    obtain ⟨k, O, sp, hk, rfl, rfl, hOl, HO, hown, hb⟩ := hrel
    have hbs := hb.size
    by_cases hlt : k < n
    · have t1 : decide ((k : Int) < (n : Int)) = true := by simp; omega
      obtain ⟨b0, o0, rfl, hB0, hc0⟩ := hA.some_ (by omega)
      obtain ⟨x, hx⟩ : ∃ a, l[k]? = some a := ⟨_, List.getElem?_eq_getElem (by have := HL.out; omega)⟩
      have d0 := (hb.cell (p := ⟨b0, o0 + k, none⟩) hB0).trans (hc0 k x hx)
      simp only [nv] at d0
      have kz : (k : Int) < (n : Int) := by omega
      have HN : Hid (searchL l = sqz O sp (tokL x ++ (l.drop (k + 1)).flatMap tokL)) := Lib.hid (by rw [HO.out, drop_at6 hx, List.flatMap_cons])
      have hcl := class_any (x : Int) wr
      rw [clsF_eq] at hcl
      obtain ⟨a, ha⟩ : ∃ a, (clsF x).1 = a := ⟨_, rfl⟩
      obtain ⟨kd, hkd⟩ : ∃ kd, kN x = kd := ⟨_, rfl⟩
      rw [ha, show (clsF x).2 = kd from hkd] at hcl
      have HC := Lib.hid hcl
      have HCell : Hid (∀ W, Below w1.heap.size w1 W → W.cell? ⟨b0, o0 + k, none⟩ = some (.int .i64 (x : Int))) := Lib.hid fun W hW => (hW.cell (p := ⟨b0, o0 + k, none⟩) hB0).trans (hc0 k x hx)
      clear hc0 hx ha hcl
      by_cases h2 : kd = 2
      · have t2 : ((kd : Int) == 2) = true := eqb_true (by omega)
        have HN2 : Hid (searchL l = sqz O sp ((l.drop (k + 1)).flatMap tokL)) := Lib.hid (by
          rw [HN.out]
          unfold tokL
          rw [hkd, h2, if_pos (beq_true 2)]
          rfl)
        clear hkd h2
        go_wp2_with fail
        refine HC.out.mono ?_
        rintro e w2 ⟨rfl, q2, rfl⟩
        unfold two
        go_wp2
        go_roundw
        case rel => exact ⟨k + 1, O, sp, by omega, by go_num, rfl, by omega, HN2, own_drewN hown q2, below_drewN hb q2⟩
        case measure => simp [intOf]; omega
      have t2 : ((kd : Int) == 2) = false := eqb_false (by omega)
      by_cases h13 : kd = 1 ∨ kd = 3
      · have hld : isLD x = true := by
          unfold isLD
          rw [hkd]
          rcases h13 with h | h
          · rw [h]; rfl
          · rw [h]; rfl
        have hw := plain_word (ld_nsp hld)
        have hpl := plain_len x
        have htok : tokL x = plainL x := by
          unfold tokL
          rw [hkd, beq_false h2, if_neg (by decide), if_pos hld]
        have HPl := Lib.hid fun W => refPlain_any x W
        obtain ⟨p, hp⟩ : ∃ p, plainL x = p := ⟨_, rfl⟩
        rw [htok] at HN
        rw [hp] at HN hw hpl HPl
        clear htok hp hkd h2 hld
        have hK : ((kd : Int) == 1) = true ∨ ((kd : Int) == 1) = false ∧ ((kd : Int) == 3) = true := by
          rcases h13 with h | h
          · exact .inl (eqb_true (by omega))
          · exact .inr ⟨eqb_false (by omega), eqb_true (by omega)⟩
        clear h13
        obtain ⟨M, hM⟩ : ∃ M, O.length = M := ⟨_, rfl⟩
        obtain ⟨A4, c4, h4⟩ := (Arr.of_own hown).form
        rw [hM] at h4
        subst h4
        have hpl2 : (O ++ p).length ≤ 3 * (k + 1) := by rw [List.length_append]; omega
        have hpl3 : ((O ++ [32]) ++ p).length ≤ 3 * (k + 1) := by rw [List.length_append, List.length_append, List.length_singleton]; omega
        have hO1 : (O ++ [32]).length ≤ 3 * k + 1 := by rw [List.length_append, List.length_singleton]; omega
        have hpl4 : p.length ≤ 2 := hpl
        clear hpl
        by_cases hs : sp = true ∧ 0 < M
        · obtain ⟨rfl, hM0⟩ := hs
          have t5 : decide (0 < M) = true := by simpa using hM0
          have t5' : decide ((0 : Int) < (M : Int)) = true := by simp; omega
          have hO0 : O ≠ [] := fun e => by rw [e] at hM; simp at hM; omega
          have HN2 : Hid (searchL l = sqz ((O ++ [32]) ++ p) false ((l.drop (k + 1)).flatMap tokL)) := Lib.hid (by rw [HN.out, sqz_t hw hO0])
          clear hw hM hO0 HN hM0
          rcases hK with t3 | ⟨t3, t4⟩
          all_goals
            go_wp2_with fail
            refine HC.out.mono ?_
            rintro e w2 ⟨rfl, q2, rfl⟩
            unfold two
            have hown2 := own_drewN hown q2
            go_wp2_with (at_builtin; refine append_int (wr.drewN q2) rfl (.tmp 39) (.tmp 40) rfl w1.heap.size (.slice A4 M c4) O rfl hown2 32 _ rfl rfl (by omega) hbs ?_; intro r1 w3 hown3 hb3; have hb4 := (below_drewN hb q2).trans hb3; have d1 := HCell.out w3 hb4)
            refine (HPl.out _).mono ?_
            rintro e w5 ⟨v5, rfl, hA5, hb5⟩
            have hown5 := own_keep_below hown3 hb5
            have hb6 := below_next hb4 hb5
            have hb6s := hb6.size
            go_wp2_with (at_builtin; refine append_ints w5 rfl (.tmp 42) (.tmp 47) rfl w1.heap.size w5.heap.size r1 (O ++ [32]) rfl hown5 p v5 rfl hA5 (by omega) (by omega) ?_; intro r2 w6 hown6 hb7)
            go_roundw
            case rel => exact ⟨k + 1, (O ++ [32]) ++ p, false, by omega, by go_num, rfl, hpl3, HN2, hown6, hb6.trans hb7⟩
            case measure => simp [intOf]; omega
        · have hs2 : O = [] ∨ sp = false := by
            cases sp with
            | false => exact .inr rfl
            | true =>
              left
              rw [← List.length_eq_zero_iff, hM]
              have : ¬ 0 < M := fun h => hs ⟨rfl, h⟩
              omega
          have HN2 : Hid (searchL l = sqz (O ++ p) false ((l.drop (k + 1)).flatMap tokL)) := Lib.hid (by rw [HN.out, sqz_f hw hs2])
          have hs3 : sp = false ∨ sp = true ∧ M = 0 := by
            cases sp with
            | false => exact .inl rfl
            | true =>
              right
              have : ¬ 0 < M := fun h => hs ⟨rfl, h⟩
              exact ⟨rfl, by omega⟩
          clear hw hM HN hs hs2
          rcases hs3 with rfl | ⟨rfl, hM0⟩
          case' inr =>
            have t5 : decide (0 < M) = false := by simp; omega
            have t5' : decide ((0 : Int) < (M : Int)) = false := by simp; omega
            clear hM0
          all_goals
            rcases hK with t3 | ⟨t3, t4⟩
          all_goals
            go_wp2_with fail
            refine HC.out.mono ?_
            rintro e w2 ⟨rfl, q2, rfl⟩
            unfold two
            have hown2 := own_drewN hown q2
            have hb4 := below_drewN hb q2
            have d1 := HCell.out (wr.drewN q2) hb4
            go_wp2_with fail
            refine (HPl.out _).mono ?_
            rintro e w5 ⟨v5, rfl, hA5, hb5⟩
            have hown5 := own_keep_below hown2 hb5
            have hb6 := below_next hb4 hb5
            have hb6s := hb6.size
            go_wp2_with (at_builtin; refine append_ints w5 rfl (.tmp 42) (.tmp 47) rfl w1.heap.size w5.heap.size (.slice A4 M c4) O rfl hown5 p v5 rfl hA5 (by omega) (by omega) ?_; intro r2 w6 hown6 hb7)
            go_roundw
            case rel => exact ⟨k + 1, O ++ p, false, by omega, by go_num, rfl, hpl2, HN2, hown6, hb6.trans hb7⟩
            case measure => simp [intOf]; omega
      · have t3 : ((kd : Int) == 1) = false := eqb_false (by omega)
        have t4 : ((kd : Int) == 3) = false := eqb_false (by omega)
        have HN2 : Hid (searchL l = sqz O true ((l.drop (k + 1)).flatMap tokL)) := Lib.hid (by
          have hld : isLD x = false := by
            unfold isLD
            rw [hkd, beq_false (show kd ≠ 1 by omega), beq_false (show kd ≠ 3 by omega)]
            rfl
          have htok : tokL x = [32] := by
            unfold tokL
            rw [hkd, beq_false h2, if_neg (by decide), hld, if_neg (by decide)]
          rw [HN.out, htok, List.singleton_append, sqz_sp])
        clear hkd h2 h13 HN
        go_wp2_with fail
        refine HC.out.mono ?_
        rintro e w2 ⟨rfl, q2, rfl⟩
        unfold two
        go_wp2
        go_roundw
        case rel => exact ⟨k + 1, O, true, by omega, by go_num, rfl, by omega, HN2, own_drewN hown q2, below_drewN hb q2⟩
        case measure => simp [intOf]; omega
    · obtain rfl : k = n := by omega
      have hOe : searchL l = O := by
        have h := HO.out
        rw [List.drop_of_length_le (by rw [HL.out]; omega), List.flatMap_nil, sqz_nil] at h
        exact h
      have HE : Hid (R = encL O) := Lib.hid (by rw [HR.out, hOe])
      have hEnc := Lib.hid (encode_own _ u4 O wr hown (fun c hc => HOK.out c (by rw [hOe]; exact hc)) (by omega))
      clear hOe hown
      go_wp2_with fail
      refine hEnc.out.mono ?_
      rintro e w2 ⟨rfl, hb2⟩
      go_wp2
      go_ret
      rw [HE.out]
      exact ⟨rfl, below_next hb1 (below_next hb hb2)⟩

end Go.Proofs.YtafnjbmeponobaaGreatDoor

namespace Go.Proofs.YtafnjbmeponobaaGreatDoor
open Go.RowKit

def nIs6 (s : List UInt8) : Bool := decide (s ≠ []) && decide (nSearch s = s)
def nAlike (s t : List UInt8) : Bool := decide (nSearch s ≠ []) && decide (nSearch s = nSearch t)
theorem str_beq_nil {a : List UInt8} (h : a ≠ []) : ((str a).toList == []) = false := by
  rw [str_toList]
  cases a with
  | nil => exact absurd rfl h
  | cons x a => rfl

set_option maxRecDepth 20000 in
set_option maxHeartbeats 1600000 in
theorem refIs6_any (s : List UInt8) (w : World) (hlen : s.length ≤ 60000) :
    Calls Tryz.prog 40 #[.string (str s)] w fun e w' => e = .returned (.bool (nIs6 s)) ∧ Below w.heap.size w w' := by
  by_cases h0 : s = []
  · subst h0
    have z0 : (str ([] : List UInt8)).toList = [] := str_toList []
    go_enter Tryz.func40, Tryz.ntmps40
    go_wp2
    go_ret
    exact ⟨rfl, Below.refl _ _⟩
  · have HS := Lib.hid (refSearch_any s w hlen)
    obtain ⟨x, hx⟩ : ∃ x, nSearch s = x := ⟨_, rfl⟩
    rw [hx] at HS
    have HE : Hid (nIs6 s = decide (x = s)) := Lib.hid (by unfold nIs6; rw [hx, decide_eq_true h0, Bool.true_and])
    have HQ := str_beq x s
    obtain ⟨z, hz⟩ : ∃ z, decide (x = s) = z := ⟨_, rfl⟩
    rw [hz] at HQ HE
    have HZ := str_beq_nil h0
    have HZ2 : ¬ (str s).toList = [] := by rw [str_toList]; exact h0
    clear hx hz h0
    go_enter Tryz.func40, Tryz.ntmps40
    go_wp2_with fail
    refine HS.out.mono ?_
    rintro e w1 ⟨rfl, hb1⟩
    go_wp2
    go_ret
    exact ⟨ret_bool HE.out.symm, hb1⟩

end Go.Proofs.YtafnjbmeponobaaGreatDoor

namespace Go.Proofs.YtafnjbmeponobaaGreatDoor

/-- Lists are compared number by number; the beginning of a list is less than it. -/
def ordL : List Nat → List Nat → Int
  | [], [] => 0
  | [], _ :: _ => -1
  | _ :: _, [] => 1
  | a :: l, b :: m => if a < b then -1 else if b < a then 1 else ordL l m
theorem ordL_cons (a b : Nat) (l m : List Nat) : ordL (a :: l) (b :: m) = if a < b then -1 else if b < a then 1 else ordL l m := rfl
theorem ordL_vals (l : List Nat) : ∀ m : List Nat, ordL l m = -1 ∨ ordL l m = 0 ∨ ordL l m = 1 := by
  induction l with
  | nil => intro m; cases m <;> simp [ordL]
  | cons a l ih =>
    intro m
    cases m with
    | nil => simp [ordL]
    | cons b m =>
      rw [ordL]
      split
      · simp
      · split
        · simp
        · exact ih m
theorem ordL_self : ∀ l : List Nat, ordL l l = 0
  | [] => rfl
  | a :: l => by rw [ordL, if_neg (Nat.lt_irrefl a), if_neg (Nat.lt_irrefl a)]; exact ordL_self l
theorem ordL_neg : ∀ l m : List Nat, ordL m l = -(ordL l m)
  | [], [] => rfl
  | [], _ :: _ => rfl
  | _ :: _, [] => rfl
  | a :: l, b :: m => by
    rw [ordL, ordL]
    by_cases h1 : a < b
    · rw [if_neg (by omega), if_pos h1, if_pos h1]; rfl
    · rw [if_neg h1]
      by_cases h2 : b < a
      · rw [if_pos h2, if_pos h2, if_neg h1]
      · rw [if_neg h2, if_neg h2, if_neg h1]; exact ordL_neg l m
theorem ordL_eq : ∀ {l m : List Nat}, ordL l m = 0 → l = m
  | [], [], _ => rfl
  | [], _ :: _, h => by simp [ordL] at h
  | _ :: _, [], h => by simp [ordL] at h
  | a :: l, b :: m, h => by
    rw [ordL] at h
    by_cases h1 : a < b
    · rw [if_pos h1] at h; simp at h
    · rw [if_neg h1] at h
      by_cases h2 : b < a
      · rw [if_pos h2] at h; simp at h
      · rw [if_neg h2] at h
        rw [ordL_eq h, Nat.le_antisymm (Nat.le_of_not_lt h2) (Nat.le_of_not_lt h1)]
theorem ordL_zero {l m : List Nat} : ordL l m = 0 ↔ l = m := ⟨ordL_eq, fun h => h ▸ ordL_self l⟩
theorem ordL_trans : ∀ {l m n : List Nat}, ordL l m = -1 → ordL m n = -1 → ordL l n = -1
  | [], [], _, h, _ => by simp [ordL] at h
  | [], _ :: _, [], _, h => by simp [ordL] at h
  | [], _ :: _, _ :: _, _, _ => rfl
  | _ :: _, [], _, h, _ => by simp [ordL] at h
  | _ :: _, _ :: _, [], _, h => by simp [ordL] at h
  | a :: l, b :: m, c :: n, h1, h2 => by
    rw [ordL] at h1 h2 ⊢
    by_cases k1 : a < b
    · by_cases k2 : b < c
      · rw [if_pos (by omega)]
      · rw [if_neg k2] at h2
        by_cases k3 : c < b
        · rw [if_pos k3] at h2; simp at h2
        · rw [if_pos (by omega)]
    · rw [if_neg k1] at h1
      by_cases k2 : b < a
      · rw [if_pos k2] at h1; simp at h1
      · rw [if_neg k2] at h1
        by_cases k3 : b < c
        · rw [if_pos (by omega)]
        · rw [if_neg k3] at h2
          by_cases k4 : c < b
          · rw [if_pos k4] at h2; simp at h2
          · rw [if_neg k4] at h2
            rw [if_neg (by omega), if_neg (by omega)]
            exact ordL_trans h1 h2
/-- What goes on behind a common beginning. -/
theorem ordL_app (p l m : List Nat) : ordL (p ++ l) (p ++ m) = ordL l m := by
  induction p with
  | nil => rfl
  | cons a p ih => rw [List.cons_append, List.cons_append, ordL, if_neg (Nat.lt_irrefl a), if_neg (Nat.lt_irrefl a)]; exact ih
/-- A list is less than a longer one that begins with it. -/
theorem ordL_longer (l : List Nat) {m : List Nat} (h : m ≠ []) : ordL l (l ++ m) = -1 := by
  have := ordL_app l [] m
  rw [List.append_nil] at this
  rw [this]
  cases m with
  | nil => exact absurd rfl h
  | cons a m => rfl
theorem ordL_first {a b : Nat} (l m : List Nat) (h : a < b) : ordL (a :: l) (b :: m) = -1 := by rw [ordL, if_pos h]
/-- Two numbers, the first one that is not 0. -/
def thenI (a b : Int) : Int := if a = 0 then b else a
theorem thenI_neg (a b : Int) : thenI (-a) (-b) = -(thenI a b) := by
  unfold thenI
  by_cases h : a = 0
  · rw [if_pos h, if_pos (by omega)]
  · rw [if_neg h, if_neg (by omega)]
/-- Lists that end in a number less than all others are compared as the lists, then what lies behind. -/
theorem ordL_end {z : Nat} : ∀ {l m : List Nat} (r s : List Nat), (∀ x ∈ l, z < x) → (∀ x ∈ m, z < x) → ordL (l ++ z :: r) (m ++ z :: s) = thenI (ordL l m) (ordL r s)
  | [], [], r, s, _, _ => by
    show ordL (z :: r) (z :: s) = _
    rw [ordL_cons, if_neg (Nat.lt_irrefl z), if_neg (Nat.lt_irrefl z)]
    rfl
  | [], b :: m, r, s, _, h2 => by
    have := h2 b (by simp)
    show ordL (z :: r) (b :: (m ++ z :: s)) = _
    rw [ordL_cons, if_pos this]
    rfl
  | a :: l, [], r, s, h1, _ => by
    have := h1 a (by simp)
    show ordL (a :: (l ++ z :: r)) (z :: s) = _
    rw [ordL_cons, if_neg (by omega), if_pos this]
    rfl
  | a :: l, b :: m, r, s, h1, h2 => by
    show ordL (a :: (l ++ z :: r)) (b :: (m ++ z :: s)) = _
    rw [ordL, ordL]
    by_cases k1 : a < b
    · rw [if_pos k1, if_pos k1]; rfl
    · rw [if_neg k1, if_neg k1]
      by_cases k2 : b < a
      · rw [if_pos k2, if_pos k2]; rfl
      · rw [if_neg k2, if_neg k2]
        exact ordL_end r s (fun x hx => h1 x (by simp [hx])) (fun x hx => h2 x (by simp [hx]))

/-! Numbers of three bytes. -/
def three (p : Nat) : List Nat := [p / 65536, p / 256 % 256, p % 256]
theorem three_lt {p q : Nat} (r s : List Nat) (h : p < q) : ordL (three p ++ r) (three q ++ s) = -1 := by
  show ordL (p / 65536 :: p / 256 % 256 :: p % 256 :: r) (q / 65536 :: q / 256 % 256 :: q % 256 :: s) = -1
  rw [ordL]
  by_cases h1 : p / 65536 < q / 65536
  · rw [if_pos h1]
  · rw [if_neg h1, if_neg (by omega), ordL]
    by_cases h2 : p / 256 % 256 < q / 256 % 256
    · rw [if_pos h2]
    · rw [if_neg h2, if_neg (by omega), ordL, if_pos (by omega)]
theorem three_gt {p q : Nat} (r s : List Nat) (h : q < p) : ordL (three p ++ r) (three q ++ s) = 1 := by
  rw [ordL_neg, three_lt s r h]
  rfl
/-- Lists of numbers that are not 0, three bytes each, with three bytes 0 behind them, are compared as the lists, then what lies behind. -/
theorem three_end : ∀ {l m : List Nat} (r s : List Nat), (∀ x ∈ l, 0 < x) → (∀ x ∈ m, 0 < x) → ordL (l.flatMap three ++ (three 0 ++ r)) (m.flatMap three ++ (three 0 ++ s)) = thenI (ordL l m) (ordL r s)
  | [], [], r, s, _, _ => by
    show ordL (three 0 ++ r) (three 0 ++ s) = _
    rw [ordL_app]
    rfl
  | [], b :: m, r, s, _, h2 => by
    rw [List.flatMap_cons, List.append_assoc]
    exact three_lt r _ (h2 b (by simp))
  | a :: l, [], r, s, h1, _ => by
    rw [List.flatMap_cons, List.append_assoc]
    exact three_gt _ s (h1 a (by simp))
  | a :: l, b :: m, r, s, h1, h2 => by
    rw [List.flatMap_cons, List.flatMap_cons, List.append_assoc, List.append_assoc]
    rcases Nat.lt_trichotomy a b with h | h | h
    · rw [three_lt _ _ h, ordL, if_pos h]; rfl
    · subst h
      rw [ordL_app, ordL, if_neg (Nat.lt_irrefl a), if_neg (Nat.lt_irrefl a)]
      exact three_end r s (fun x hx => h1 x (by simp [hx])) (fun x hx => h2 x (by simp [hx]))
    · rw [three_gt _ _ h, ordL, if_neg (by omega), if_pos h]; rfl

end Go.Proofs.YtafnjbmeponobaaGreatDoor
