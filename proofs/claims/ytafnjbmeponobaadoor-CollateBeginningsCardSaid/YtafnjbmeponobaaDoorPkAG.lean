/-
  The reference's plain, folded, Fold, Search, Is, Alike.
  Joining, small letters, added marks, characters of search forms in plain mathematics.
  The reference's Search, Is, Alike.
  The reference's Is, Alike of fold.
  Comparing lists of numbers, and its bytes.
-/
import Derived.Test.YtafnjbmeponobaaDoorPkAF
import Derived.ProofKit
namespace Go.Proofs.YtafnjbmeponobaaDoor
open Go.RowKit

/-! Small letters and plain letters of natural numbers. -/
def lkN (ps : List (Nat × Nat)) (c : Nat) : Nat := match ps.find? fun x => Nat.beq x.1 c with | some x => x.2 | none => 0
theorem lk_nat (ps : List (Nat × Nat)) (c : Nat) : lkI ps (c : Int) = (lkN ps c : Int) := by
  unfold lkI lkN
  have e : (fun x : Nat × Nat => (x.1 : Int) == (c : Int)) = fun x => Nat.beq x.1 c := by
    funext x
    rw [Bool.eq_iff_iff, Nat.beq_eq]
    exact ⟨fun h => by have := eq_of_beq h; omega, fun h => by rw [h]; exact beq_self_eq_true _⟩
  rw [e]
  cases ps.find? fun x => Nat.beq x.1 c <;> rfl
theorem low_nz : ∀ x ∈ lowL, x.2 ≠ 0 := by decide
theorem pl_nz : ∀ x ∈ plL, x.2 ≠ 0 := by decide
theorem lowN_if (c : Nat) : lowN c = if (65 ≤ c ∧ c ≤ 90) ∨ (913 ≤ c ∧ c ≤ 937 ∧ c ≠ 930) ∨ (1040 ≤ c ∧ c ≤ 1071) then c + 32 else if c = 962 then 963 else if lkN lowL c = 0 then c else lkN lowL c := by
  have e : ((inN c 65 90 || (inN c 913 937 && !Nat.beq c 930) || inN c 1040 1071) = true) = ((65 ≤ c ∧ c ≤ 90) ∨ (913 ≤ c ∧ c ≤ 937 ∧ c ≠ 930) ∨ (1040 ≤ c ∧ c ≤ 1071)) := by
    unfold inN
    apply propext
    simp only [Bool.or_eq_true, Bool.and_eq_true, Nat.ble_eq, Bool.not_eq_true', ← Bool.not_eq_true, Nat.beq_eq]
    omega
  unfold lowN lkN
  cases hf : lowL.find? fun x => Nat.beq x.1 c with
  | none => simp only [e, Nat.beq_eq, ↓reduceIte]
  | some x =>
    have h0 := low_nz _ (List.mem_of_find?_eq_some hf)
    simp only [e, Nat.beq_eq, h0, ↓reduceIte]
theorem lowI_nat (c : Nat) : lowI (c : Int) = (lowN c : Int) := by
  rw [lowN_if]
  unfold lowI
  rw [lk_nat]
  by_cases h1 : (65 ≤ c ∧ c ≤ 90) ∨ (913 ≤ c ∧ c ≤ 937 ∧ c ≠ 930) ∨ (1040 ≤ c ∧ c ≤ 1071)
  · rw [if_pos h1, if_pos (by omega)]
    omega
  · rw [if_neg h1, if_neg (show ¬ ((65 ≤ (c : Int) ∧ (c : Int) ≤ 90) ∨ (913 ≤ (c : Int) ∧ (c : Int) ≤ 937 ∧ (c : Int) ≠ 930) ∨ (1040 ≤ (c : Int) ∧ (c : Int) ≤ 1071)) by omega)]
    by_cases h2 : c = 962
    · rw [if_pos h2, if_pos (show (c : Int) = 962 by omega)]
      rfl
    · rw [if_neg h2, if_neg (show ¬ (c : Int) = 962 by omega)]
      by_cases h3 : lkN lowL c = 0
      · rw [if_pos h3, if_pos (show (lkN lowL c : Int) = 0 by omega)]
      · rw [if_neg h3, if_neg (show ¬ (lkN lowL c : Int) = 0 by omega)]
theorem pl_ok : ∀ x ∈ plL, okC x.1 ∧ okC x.2 := by
  have h : (plL.all fun x => hasN x.1 && hasN x.2) = true := by kernel_rfl
  intro x hx
  have := List.all_eq_true.1 h x hx
  rw [Bool.and_eq_true] at this
  exact ⟨ok_of_has this.1, ok_of_has this.2⟩
theorem plain_if (c : Nat) : plainL c = if c = 230 then [97, 101] else if c = 339 then [111, 101] else if c = 254 then [116, 104] else if c = 331 then [110, 103] else if lkN plL c = 0 then [c] else [lkN plL c] := by
  unfold plainL lkN
  cases hf : plL.find? fun x => Nat.beq x.1 c with
  | none => simp only [Nat.beq_eq, ↓reduceIte]
  | some x =>
    have h0 := pl_nz _ (List.mem_of_find?_eq_some hf)
    simp only [Nat.beq_eq, h0, ↓reduceIte]

/-- A slice that holds these characters. -/
def NewArr (w : World) (l : List Nat) (e : Ending) (w' : World) : Prop := ∃ v, e = .returned v ∧ Arr nv w' w'.heap.size v l ∧ Below w.heap.size w w'
theorem arr_one (w : World) (x : Int) (y : Nat) (h : x = (y : Int)) : NewArr w [y] (.returned (.slice (some ⟨w.heap.size, 0, none⟩) 1 1)) (w.alloc (.cells #[.int .i64 x] 3)) := by
  subst h
  refine ⟨_, rfl, (Arr.of_box (val := nv) (xs := [y]) (n := 1) (c := 1) (Box.made w 3 #[.int .i64 (y : Int)]) rfl (Nat.le_refl _) fun i u hu => ?_).more (Box.made w 3 #[.int .i64 (y : Int)]).lt, below_new (Below.refl _ _) _⟩
  cases i with
  | zero => simp at hu; subst hu; rfl
  | succ i => simp at hu
theorem arr_two (w : World) (x x' : Int) (y z : Nat) (h : x = (y : Int)) (h' : x' = (z : Int)) : NewArr w [y, z] (.returned (.slice (some ⟨w.heap.size, 0, none⟩) 2 2)) (w.alloc (.cells #[.int .i64 x, .int .i64 x'] 3)) := by
  subst h h'
  refine ⟨_, rfl, (Arr.of_box (val := nv) (xs := [y, z]) (n := 2) (c := 2) (Box.made w 3 #[.int .i64 (y : Int), .int .i64 (z : Int)]) rfl (Nat.le_refl _) fun i u hu => ?_).more (Box.made w 3 #[.int .i64 (y : Int), .int .i64 (z : Int)]).lt, below_new (Below.refl _ _) _⟩
  match i with
  | 0 => simp at hu; subst hu; rfl
  | 1 => simp at hu; subst hu; rfl
  | i + 2 => simp at hu
theorem NewArr.from {w w1 : World} {l : List Nat} {e : Ending} {w' : World} (h : NewArr w1 l e w') (hb : Below w.heap.size w w1) : NewArr w l e w' := by
  obtain ⟨v, h1, h2, h3⟩ := h
  exact ⟨v, h1, h2, below_next hb h3⟩

/-- append of two integers. -/
theorem append_two6 {ops : Array Oper} {rest : List Oper} {o : Oper} {a : Act} {Q : Exit → Act → World → Prop} (w : World) (hgd : o.guard = none) (s x : Operand)
    (ho : o.op = .call { callee := .builtin .append, args := #[s, x], argTypes := #[22, 22] })
    (base : Nat) (v : Value) (xs : List Nat) (hs : a.eval s = v) (hown : w.ownsRow base 3 1 v xs.length (xs.map nv)) (y z : Nat) (u u' : Value) (hu : u = nv y) (hu' : u' = nv z)
    (hx : a.eval x = .slice (some ⟨w.heap.size, 0, none⟩) 2 2) (hlen : xs.length ≤ 1000000000000 - 2) (hbase : base ≤ w.heap.size)
    (h : ∀ v' w', w'.ownsRow base 3 1 v' (xs ++ [y, z]).length ((xs ++ [y, z]).map nv) → Below base w w' → wpList Tryd.prog ops Q rest (a.put o.dst v') w') : wpList Tryd.prog ops Q (o :: rest) a (w.alloc (.cells #[u, u'] 3)) := by
  refine append_ints (w.alloc (.cells #[u, u'] 3)) hgd s x ho base (w.heap.size + 1) v xs hs (own_keep_below hown ((Below.refl _ _).alloc (Nat.le_refl _) _)) [y, z] _ hx (Arr.of_box (Box.made _ _ _) rfl (Nat.le_refl _) ?_) (by simp; omega) (by simp; omega) ?_
  · intro i q hq
    match i, hq with
    | 0, hq => simp at hq; subst hq; rw [hu]; rfl
    | 1, hq => simp at hq; subst hq; rw [hu']; rfl
    | i + 2, hq => simp at hq
  · intro v' w' h1 h2
    exact h v' w' h1 (((Below.refl _ _).alloc hbase _).trans h2)

/-! folded. -/
theorem low1_len (c : Nat) : (low1 c).length ≤ 2 := by unfold low1; split <;> simp
theorem fold_len : ∀ l : List Nat, (foldL l).length ≤ 2 * l.length
  | [] => by simp [foldL]
  | c :: l => by
    have h := fold_len l
    have h2 := low1_len c
    rw [show foldL (c :: l) = low1 c ++ foldL l from List.flatMap_cons, List.length_append, List.length_cons]
    omega
theorem nFL_len (s : List UInt8) : (nFL s).length ≤ 4 * s.length := by
  have h1 := fold_len (dcF (nL s))
  have h2 := dcF_len (nL s)
  have h3 := nL_len s
  unfold nFL
  omega

end Go.Proofs.YtafnjbmeponobaaDoor

namespace Go.Proofs.YtafnjbmeponobaaDoor

theorem ins_one (c x : Nat) (hx : clM x = 0) : ∀ A : List Nat, insB clM c (A ++ [x]) = insB clM c A ++ [x]
  | [] => by
    have h : ¬ (0 < clM c ∧ clM c < clM x) := by omega
    show (if 0 < clM c ∧ clM c < clM x then _ else _) = _
    rw [if_neg h]
    rfl
  | p :: A => by
    rw [List.cons_append, insB, insB]
    split
    · rw [ins_one c x hx A]; rfl
    · rfl
theorem sort_one (x : Nat) (hx : clM x = 0) : ∀ (l A : List Nat), sortB clM (A ++ [x]) l = sortB clM A l ++ [x]
  | [], _ => rfl
  | c :: l, A => by rw [sortB_cons, sortB_cons, ins_one c x hx A, sort_one x hx l]
theorem sort_first {b : Nat} (hb : clM b = 0) (X : List Nat) : (sortB clM [] (b :: X)).reverse = b :: (sortB clM [] X).reverse := by
  have h := sort_one b hb X []
  rw [sortB_cons, show insB clM b [] = [] ++ [b] from rfl, h, List.reverse_append]
  rfl
theorem dc_blank (l m : List Nat) : dcF (l ++ 32 :: m) = dcF l ++ 32 :: dcF m := by
  rw [dcF_join l (32 :: m) (fun c hc => by simp at hc; subst hc; exact blank_facts.2.2.1)]
  congr 1
  unfold dcF
  rw [List.flatMap_cons, blank_facts.2.1, List.singleton_append, sort_first blank_facts.2.2.1]
theorem fold_app (a b : List Nat) : foldL (a ++ b) = foldL a ++ foldL b := List.flatMap_append
theorem fold_blank (b : List Nat) : foldL (32 :: b) = 32 :: foldL b := by
  unfold foldL
  rw [List.flatMap_cons, blank_facts.2.2.2.1]
  rfl
theorem dec_blank : decR [32] = some [32] := by
  have h := dec_enc [32] (fun c hc => by rw [List.mem_singleton.1 hc]; exact ok_of_has blank_facts.1)
  exact h
theorem nL_blank {s t : List UInt8} (hs : (decR s).isSome = true) (ht : (decR t).isSome = true) : nL (s ++ 32 :: t) = nL s ++ 32 :: nL t := by
  have hb : (decR [32]).isSome = true := by rw [dec_blank]; rfl
  have h1 : nL ([32] ++ t) = nL [32] ++ nL t := nL_app hb ht
  have h3 : (decR ([32] ++ t)).isSome = true := by
    rw [dec_app dec_blank, Option.isSome_map]
    exact ht
  have h4 := nL_app hs h3
  rw [show s ++ 32 :: t = s ++ ([32] ++ t) from rfl, h4, h1]
  have : nL [32] = [32] := by unfold nL; rw [dec_blank]; rfl
  rw [this]
  rfl
theorem nFL_blank {s t : List UInt8} (hs : (decR s).isSome = true) (ht : (decR t).isSome = true) : nFL (s ++ 32 :: t) = nFL s ++ 32 :: nFL t := by
  unfold nFL
  rw [nL_blank hs ht, dc_blank, fold_app, fold_blank]
theorem nSL_blank {s t : List UInt8} (hs : (decR s).isSome = true) (ht : (decR t).isSome = true) : nSL (s ++ 32 :: t) = if nSL s = [] then nSL t else if nSL t = [] then nSL s else nSL s ++ 32 :: nSL t := by
  unfold nSL searchL
  rw [nFL_blank hs ht, List.flatMap_append, List.flatMap_cons, blank_facts.2.2.2.2]
  exact sq_app _ _
theorem encL_nil {l : List Nat} : encL l = [] ↔ l = [] := by
  constructor
  · intro h
    cases l with
    | nil => rfl
    | cons c l =>
      rw [show encL (c :: l) = encC c ++ encL l from rfl] at h
      exact absurd (List.append_eq_nil_iff.1 h).1 (encC_ne c)
  · rintro rfl; rfl
/-- One string more. -/
def joinStep (out x : List UInt8) : List UInt8 := if x ≠ [] ∧ out ≠ [] then out ++ 32 :: x else out ++ x
def nJoin (l : List (List UInt8)) : List UInt8 := l.foldl (fun out s => joinStep out (nSearch s)) []
theorem join_two {s t : List UInt8} (hs : (decR s).isSome = true) (ht : (decR t).isSome = true) : nSearch (s ++ 32 :: t) = nJoin [s, t] := by
  have e : nJoin [s, t] = joinStep (joinStep [] (nSearch s)) (nSearch t) := rfl
  have e1 : joinStep [] (nSearch s) = nSearch s := by
    unfold joinStep
    rw [if_neg (fun h => h.2 rfl)]
    rfl
  rw [e, e1]
  unfold joinStep nSearch
  rw [nSL_blank hs ht]
  have n1 : encL (nSL s) = [] ↔ nSL s = [] := encL_nil
  have n2 : encL (nSL t) = [] ↔ nSL t = [] := encL_nil
  by_cases h1 : nSL s = []
  · rw [if_pos h1, if_neg (fun h => h.2 (n1.2 h1)), n1.2 h1]
    rfl
  · rw [if_neg h1]
    by_cases h2 : nSL t = []
    · rw [if_pos h2, if_neg (fun h => h.1 (n2.2 h2)), n2.2 h2, List.append_nil]
    · rw [if_neg h2, if_pos ⟨fun h => h2 (n2.1 h), fun h => h1 (n1.1 h)⟩, encL_app]
      rfl

/-! Small letters. -/
theorem low_parts {c : Nat} (hc : hasN c = true) : lowN c = c ∨ (hasN (lowN c) = true ∧ lowN (lowN c) = lowN c ∧ ∃ b d ms, wholeR c = b :: ms ∧ wholeR (lowN c) = d :: ms ∧ clM b = 0 ∧ clM d = 0 ∧ low1 b = low1 d) := by
  have h := List.all_eq_true.1 chars_low c ((char_mem c).2 hc)
  unfold goodC at h
  rw [Bool.or_eq_true, Nat.beq_eq] at h
  rcases h with h | h
  · exact .inl h
  · right
    rw [Bool.and_eq_true, Bool.and_eq_true, Nat.beq_eq] at h
    obtain ⟨⟨h1, h2⟩, h3⟩ := h
    refine ⟨h1, h2, ?_⟩
    split at h3
    · rename_i b ms d ns e1 e2
      simp only [Bool.and_eq_true, Nat.beq_eq] at h3
      obtain ⟨⟨⟨g1, g2⟩, g3⟩, g4⟩ := h3
      have := eqB_eq g1
      subst this
      exact ⟨b, d, ms, e1, e2, by rw [clM_eq]; exact g2, by rw [clM_eq]; exact g3, eqB_eq g4⟩
    · cases h3
theorem low_low {c : Nat} (hc : hasN c = true) : lowN (lowN c) = lowN c := by
  rcases low_parts hc with h | h
  · rw [h, h]
  · exact h.2.1
theorem low_has {c : Nat} (hc : hasN c = true) : hasN (lowN c) = true := by
  rcases low_parts hc with h | h
  · rw [h]; exact hc
  · exact h.1
theorem dc_split (P Q : List Nat) {c b : Nat} {ms : List Nat} (hw : wholeR c = b :: ms) (hb : clM b = 0) : dcF (P ++ c :: Q) = dcF P ++ b :: (sortB clM [] (ms ++ Q.flatMap wholeR)).reverse := by
  have hc : clM c = 0 := by
    rcases Nat.eq_zero_or_pos (clM c) with h | h
    · exact h
    · have := whole_mark h
      rw [hw] at this
      injection this with e1 _
      rw [e1] at hb
      exact hb
  rw [dcF_join P (c :: Q) (fun x hx => by simp at hx; subst hx; exact hc)]
  congr 1
  unfold dcF
  rw [List.flatMap_cons, hw, List.cons_append, sort_first hb]
theorem fold_low (P Q : List Nat) {c : Nat} (hc : hasN c = true) : foldL (dcF (P ++ lowN c :: Q)) = foldL (dcF (P ++ c :: Q)) := by
  rcases low_parts hc with h | ⟨_, _, b, d, ms, e1, e2, h1, h2, h3⟩
  · rw [h]
  · rw [dc_split P Q e1 h1, dc_split P Q e2 h2, fold_app, fold_app]
    congr 1
    unfold foldL
    rw [List.flatMap_cons, List.flatMap_cons, h3]
theorem nFL_low (P Q : List Nat) {c : Nat} (hP : ∀ x ∈ P, hasN x = true) (hQ : ∀ x ∈ Q, hasN x = true) (hc : hasN c = true) : nFL (encL (P ++ lowN c :: Q)) = nFL (encL (P ++ c :: Q)) := by
  have g : ∀ y, hasN y = true → ∀ x ∈ P ++ y :: Q, okC x := by
    intro y hy x hx
    rcases List.mem_append.1 hx with hx | hx
    · exact ok_of_has (hP x hx)
    · rcases List.mem_cons.1 hx with rfl | hx
      · exact ok_of_has hy
      · exact ok_of_has (hQ x hx)
  unfold nFL
  rw [nL_enc (g _ (low_has hc)), nL_enc (g c hc), fold_low P Q hc]

/-! Added marks. -/
theorem ins_filter (c : Nat) : ∀ R : List Nat, (insB clM c R).filter (fun x => !isM x) = [c].filter (fun x => !isM x) ++ R.filter (fun x => !isM x)
  | [] => by rw [insB, List.filter_nil, List.append_nil]
  | p :: R => by
    rw [insB]
    split
    · rename_i h
      have h1 : isM p = true := isM_pos.2 (by omega)
      have h2 : isM c = true := isM_pos.2 h.1
      have e1 : (p :: insB clM c R).filter (fun x => !isM x) = (insB clM c R).filter fun x => !isM x := List.filter_cons_of_neg (by rw [h1]; simp)
      have e2 : (p :: R).filter (fun x => !isM x) = R.filter fun x => !isM x := List.filter_cons_of_neg (by rw [h1]; simp)
      rw [e1, e2, ins_filter c R]
    · rw [show c :: p :: R = [c] ++ p :: R from rfl, List.filter_append]
theorem sort_filter : ∀ (l R : List Nat), (sortB clM R l).filter (fun x => !isM x) = (l.filter fun x => !isM x).reverse ++ R.filter fun x => !isM x
  | [], R => by rw [sortB_nil, List.filter_nil]; rfl
  | c :: l, R => by
    rw [sortB_cons, sort_filter l, ins_filter, show c :: l = [c] ++ l from rfl, List.filter_append, List.reverse_append, List.append_assoc]
    congr 2
    by_cases h : isM c = true
    · rw [List.filter_cons_of_neg (by rw [h]; simp)]; rfl
    · rw [List.filter_cons_of_pos (by simpa using h)]; rfl
theorem dc_filter (l : List Nat) : (dcF l).filter (fun x => !isM x) = (l.flatMap wholeR).filter fun x => !isM x := by
  unfold dcF
  rw [List.filter_reverse, sort_filter, List.filter_nil, List.append_nil, List.reverse_reverse]
theorem mark_tok {c : Nat} (h : isM c = true) : (low1 c).flatMap tokL = [] := by
  have hk : isMarkA c = true := by
    have h0 := isM_pos.1 h
    rw [clM_eq] at h0
    unfold clF at h0
    split at h0
    · assumption
    · omega
  have key : ∀ x ∈ [768, 769, 770, 771, 772, 774, 775, 776, 778, 779, 780, 803, 807, 808], eqB ((low1 x).flatMap tokL) [] = true := by decide +kernel
  refine eqB_eq (key c ?_)
  unfold isMarkA inN at hk
  simp only [Bool.or_eq_true, Bool.and_eq_true, Nat.ble_eq, Nat.beq_eq] at hk
  simp only [List.mem_cons, List.not_mem_nil, or_false]
  omega
theorem tok_filter : ∀ d : List Nat, (foldL d).flatMap tokL = (foldL (d.filter fun x => !isM x)).flatMap tokL
  | [] => rfl
  | c :: d => by
    have ih := tok_filter d
    have e : foldL (c :: d) = low1 c ++ foldL d := List.flatMap_cons
    by_cases h : isM c = true
    · rw [List.filter_cons_of_neg (by rw [h]; simp), e, List.flatMap_append, mark_tok h, List.nil_append, ih]
    · have e2 : foldL (c :: d.filter fun x => !isM x) = low1 c ++ foldL (d.filter fun x => !isM x) := List.flatMap_cons
      rw [List.filter_cons_of_pos (by simpa using h), e, e2, List.flatMap_append, List.flatMap_append, ih]
theorem search_marks (P Q : List Nat) {m : Nat} (hm : isM m = true) : searchL (foldL (dcF (P ++ m :: Q))) = searchL (foldL (dcF (P ++ Q))) := by
  unfold searchL
  rw [tok_filter (dcF (P ++ m :: Q)), tok_filter (dcF (P ++ Q)), dc_filter, dc_filter, List.flatMap_append, List.flatMap_append, List.flatMap_cons, whole_mark (isM_pos.1 hm)]
  have e : (P.flatMap wholeR ++ ([m] ++ Q.flatMap wholeR)).filter (fun x => !isM x) = (P.flatMap wholeR ++ Q.flatMap wholeR).filter fun x => !isM x := by
    rw [List.filter_append, List.filter_append, List.filter_append, List.filter_cons_of_neg (by rw [hm]; simp)]
    rfl
  rw [e]
theorem three_marks {m : Nat} (h1 : 768 ≤ m) (h2 : m ≤ 770) : isM m = true ∧ hasN m = true := by
  have : m = 768 ∨ m = 769 ∨ m = 770 := by omega
  rcases this with rfl | rfl | rfl
  all_goals decide +kernel
theorem nSL_marks (P Q : List Nat) {m : Nat} (hP : ∀ x ∈ P, hasN x = true) (hQ : ∀ x ∈ Q, hasN x = true) (h1 : 768 ≤ m) (h2 : m ≤ 770) : nSL (encL (P ++ m :: Q)) = nSL (encL (P ++ Q)) := by
  have hm := three_marks h1 h2
  have g1 : ∀ x ∈ P ++ Q, okC x := by
    intro x hx
    rcases List.mem_append.1 hx with hx | hx
    · exact ok_of_has (hP x hx)
    · exact ok_of_has (hQ x hx)
  have g2 : ∀ x ∈ P ++ m :: Q, okC x := by
    intro x hx
    rcases List.mem_append.1 hx with hx | hx
    · exact ok_of_has (hP x hx)
    · rcases List.mem_cons.1 hx with rfl | hx
      · exact ok_of_has hm.2
      · exact ok_of_has (hQ x hx)
  unfold nSL nFL
  rw [nL_enc g1, nL_enc g2, search_marks P Q hm.1]

/-! Characters of search forms. -/
theorem good_lower {e : Nat} (h : GoodE e) : lowN e = e := by
  rcases low1_head e with g | ⟨_, g⟩
  · have := h.low
    rw [g] at this
    injection this
  · have := h.low
    rw [g] at this
    injection this with _ h2
    cases h2
/-- What the document says of the characters of a search form. -/
theorem search_chars (s : List UInt8) {i y : Nat} (h : (nSL s)[i]? = some y) : (y = 32 ∧ 0 < i ∧ i + 1 < (nSL s).length ∧ (nSL s)[i - 1]? ≠ some 32) ∨ (y ≠ 32 ∧ ((kN y = 3 ∧ y ≤ 57) ∨ (kN y = 1 ∧ lowN y = y))) := by
  rcases search_mem (dec_dc s) (List.mem_of_getElem? h) with rfl | g
  · exact .inl ⟨rfl, sq_blank h⟩
  · refine .inr ⟨g.nsp, ?_⟩
    have hl := g.ld
    unfold isLD at hl
    rw [Bool.or_eq_true, Nat.beq_eq, Nat.beq_eq] at hl
    rcases hl with hl | hl
    · exact .inr ⟨hl, good_lower g⟩
    · refine .inl ⟨hl, ?_⟩
      rcases g.dig with h2 | h2
      · omega
      · exact h2

end Go.Proofs.YtafnjbmeponobaaDoor

namespace Go.Proofs.YtafnjbmeponobaaDoor
open Go.RowKit

/-! The loop of Search: what is out, whether a blank is due, what is left. -/
theorem sqT_word (R : List Nat) : ∀ p : List Nat, (∀ y ∈ p, y ≠ 32) → sqT false (p ++ R) = p ++ sqT false R
  | [], _ => rfl
  | y :: p, h => by rw [List.cons_append, sqT_f (h y (by simp)), sqT_word R p fun z hz => h z (by simp [hz])]; rfl
def sqz (O : List Nat) (sp : Bool) (R : List Nat) : List Nat := if O = [] then sq R else O ++ sqT sp R
theorem sqz_nil (O : List Nat) (sp : Bool) : sqz O sp [] = O := by
  unfold sqz
  by_cases h : O = []
  · rw [if_pos h, h]; rfl
  · rw [if_neg h]; simp [sqT]
theorem sqz_sp (O : List Nat) (sp : Bool) (R : List Nat) : sqz O sp (32 :: R) = sqz O true R := by unfold sqz; rw [sq_sp, sqT_sp]
theorem sqz_f {O : List Nat} {sp : Bool} {p : List Nat} (hp : p ≠ [] ∧ ∀ y ∈ p, y ≠ 32) (h : O = [] ∨ sp = false) (R : List Nat) : sqz O sp (p ++ R) = sqz (O ++ p) false R := by
  obtain ⟨y, q, rfl⟩ : ∃ y q, p = y :: q := by
    cases p with
    | nil => exact absurd rfl hp.1
    | cons y q => exact ⟨y, q, rfl⟩
  have hq : ∀ z ∈ q, z ≠ 32 := fun z hz => hp.2 z (by simp [hz])
  unfold sqz
  rw [if_neg (show ¬ O ++ y :: q = [] by simp)]
  by_cases h0 : O = []
  · subst h0
    rw [if_pos rfl, List.cons_append, sq_cons (hp.2 y (by simp)), sqT_word R q hq]
    rfl
  · have hs : sp = false := h.resolve_left h0
    subst hs
    rw [if_neg h0, sqT_word R (y :: q) hp.2, List.append_assoc]
theorem sqz_t {O p : List Nat} (hp : p ≠ [] ∧ ∀ y ∈ p, y ≠ 32) (h : O ≠ []) (R : List Nat) : sqz O true (p ++ R) = sqz ((O ++ [32]) ++ p) false R := by
  obtain ⟨y, q, rfl⟩ : ∃ y q, p = y :: q := by
    cases p with
    | nil => exact absurd rfl hp.1
    | cons y q => exact ⟨y, q, rfl⟩
  have hq : ∀ z ∈ q, z ≠ 32 := fun z hz => hp.2 z (by simp [hz])
  unfold sqz
  rw [if_neg h, if_neg (show ¬ (O ++ [32]) ++ y :: q = [] by simp), List.cons_append, sqT_t (hp.2 y (by simp)), sqT_word R q hq]
  simp
theorem pl_nsp : ∀ x ∈ plL, x.2 ≠ 32 := by decide
theorem lkN_in (ps : List (Nat × Nat)) (c : Nat) : lkN ps c = 0 ∨ ∃ x ∈ ps, lkN ps c = x.2 := by
  unfold lkN
  cases hf : ps.find? fun x => Nat.beq x.1 c with
  | none => exact .inl rfl
  | some x => exact .inr ⟨x, List.mem_of_find?_eq_some hf, rfl⟩
theorem plain_word {c : Nat} (h : c ≠ 32) : plainL c ≠ [] ∧ ∀ y ∈ plainL c, y ≠ 32 := by
  rw [plain_if]
  split
  · decide
  split
  · decide
  split
  · decide
  split
  · decide
  split
  · simpa using h
  · rcases lkN_in plL c with h1 | ⟨x, h1, h2⟩
    · contradiction
    · rw [h2]
      simpa using pl_nsp x h1
theorem plain_len (c : Nat) : (plainL c).length ≤ 2 := by
  rw [plain_if]
  repeat' split
  all_goals simp
theorem ld_nsp {c : Nat} (h : isLD c = true) : c ≠ 32 := by
  intro e
  rw [e] at h
  have : isLD 32 = false := by decide +kernel
  rw [this] at h
  cases h
theorem drop_at6 {l : List Nat} {k x : Nat} (h : l[k]? = some x) : l.drop k = x :: l.drop (k + 1) := by
  obtain ⟨hl, he⟩ := List.getElem?_eq_some_iff.1 h
  rw [List.drop_eq_getElem_cons hl, he]

end Go.Proofs.YtafnjbmeponobaaDoor

namespace Go.Proofs.YtafnjbmeponobaaDoor
open Go.RowKit

def nIs6 (s : List UInt8) : Bool := decide (s ≠ []) && decide (nSearch s = s)
def nAlike (s t : List UInt8) : Bool := decide (nSearch s ≠ []) && decide (nSearch s = nSearch t)
theorem str_beq_nil {a : List UInt8} (h : a ≠ []) : ((str a).toList == []) = false := by
  rw [str_toList]
  cases a with
  | nil => exact absurd rfl h
  | cons x a => rfl

end Go.Proofs.YtafnjbmeponobaaDoor

namespace Go.Proofs.YtafnjbmeponobaaDoor

/-- Lists are compared number by number; the beginning of a list is less than it. -/
def ordL : List Nat → List Nat → Int
  | [], [] => 0
  | [], _ :: _ => -1
  | _ :: _, [] => 1
  | a :: l, b :: m => if a < b then -1 else if b < a then 1 else ordL l m
theorem ordL_cons (a b : Nat) (l m : List Nat) : ordL (a :: l) (b :: m) = if a < b then -1 else if b < a then 1 else ordL l m := rfl
theorem ordL_vals (l : List Nat) : ∀ m : List Nat, ordL l m = -1 ∨ ordL l m = 0 ∨ ordL l m = 1 := by
  induction l with
  | nil => intro m; cases m <;> simp [ordL]
  | cons a l ih =>
    intro m
    cases m with
    | nil => simp [ordL]
    | cons b m =>
      rw [ordL]
      split
      · simp
      · split
        · simp
        · exact ih m
theorem ordL_self : ∀ l : List Nat, ordL l l = 0
  | [] => rfl
  | a :: l => by rw [ordL, if_neg (Nat.lt_irrefl a), if_neg (Nat.lt_irrefl a)]; exact ordL_self l
theorem ordL_neg : ∀ l m : List Nat, ordL m l = -(ordL l m)
  | [], [] => rfl
  | [], _ :: _ => rfl
  | _ :: _, [] => rfl
  | a :: l, b :: m => by
    rw [ordL, ordL]
    by_cases h1 : a < b
    · rw [if_neg (by omega), if_pos h1, if_pos h1]; rfl
    · rw [if_neg h1]
      by_cases h2 : b < a
      · rw [if_pos h2, if_pos h2, if_neg h1]
      · rw [if_neg h2, if_neg h2, if_neg h1]; exact ordL_neg l m
theorem ordL_eq : ∀ {l m : List Nat}, ordL l m = 0 → l = m
  | [], [], _ => rfl
  | [], _ :: _, h => by simp [ordL] at h
  | _ :: _, [], h => by simp [ordL] at h
  | a :: l, b :: m, h => by
    rw [ordL] at h
    by_cases h1 : a < b
    · rw [if_pos h1] at h; simp at h
    · rw [if_neg h1] at h
      by_cases h2 : b < a
      · rw [if_pos h2] at h; simp at h
      · rw [if_neg h2] at h
        rw [ordL_eq h, Nat.le_antisymm (Nat.le_of_not_lt h2) (Nat.le_of_not_lt h1)]
theorem ordL_zero {l m : List Nat} : ordL l m = 0 ↔ l = m := ⟨ordL_eq, fun h => h ▸ ordL_self l⟩
theorem ordL_trans : ∀ {l m n : List Nat}, ordL l m = -1 → ordL m n = -1 → ordL l n = -1
  | [], [], _, h, _ => by simp [ordL] at h
  | [], _ :: _, [], _, h => by simp [ordL] at h
  | [], _ :: _, _ :: _, _, _ => rfl
  | _ :: _, [], _, h, _ => by simp [ordL] at h
  | _ :: _, _ :: _, [], _, h => by simp [ordL] at h
  | a :: l, b :: m, c :: n, h1, h2 => by
    rw [ordL] at h1 h2 ⊢
    by_cases k1 : a < b
    · by_cases k2 : b < c
      · rw [if_pos (by omega)]
      · rw [if_neg k2] at h2
        by_cases k3 : c < b
        · rw [if_pos k3] at h2; simp at h2
        · rw [if_pos (by omega)]
    · rw [if_neg k1] at h1
      by_cases k2 : b < a
      · rw [if_pos k2] at h1; simp at h1
      · rw [if_neg k2] at h1
        by_cases k3 : b < c
        · rw [if_pos (by omega)]
        · rw [if_neg k3] at h2
          by_cases k4 : c < b
          · rw [if_pos k4] at h2; simp at h2
          · rw [if_neg k4] at h2
            rw [if_neg (by omega), if_neg (by omega)]
            exact ordL_trans h1 h2
/-- What goes on behind a common beginning. -/
theorem ordL_app (p l m : List Nat) : ordL (p ++ l) (p ++ m) = ordL l m := by
  induction p with
  | nil => rfl
  | cons a p ih => rw [List.cons_append, List.cons_append, ordL, if_neg (Nat.lt_irrefl a), if_neg (Nat.lt_irrefl a)]; exact ih
/-- A list is less than a longer one that begins with it. -/
theorem ordL_longer (l : List Nat) {m : List Nat} (h : m ≠ []) : ordL l (l ++ m) = -1 := by
  have := ordL_app l [] m
  rw [List.append_nil] at this
  rw [this]
  cases m with
  | nil => exact absurd rfl h
  | cons a m => rfl
theorem ordL_first {a b : Nat} (l m : List Nat) (h : a < b) : ordL (a :: l) (b :: m) = -1 := by rw [ordL, if_pos h]
/-- Two numbers, the first one that is not 0. -/
def thenI (a b : Int) : Int := if a = 0 then b else a
theorem thenI_neg (a b : Int) : thenI (-a) (-b) = -(thenI a b) := by
  unfold thenI
  by_cases h : a = 0
  · rw [if_pos h, if_pos (by omega)]
  · rw [if_neg h, if_neg (by omega)]
/-- Lists that end in a number less than all others are compared as the lists, then what lies behind. -/
theorem ordL_end {z : Nat} : ∀ {l m : List Nat} (r s : List Nat), (∀ x ∈ l, z < x) → (∀ x ∈ m, z < x) → ordL (l ++ z :: r) (m ++ z :: s) = thenI (ordL l m) (ordL r s)
  | [], [], r, s, _, _ => by
    show ordL (z :: r) (z :: s) = _
    rw [ordL_cons, if_neg (Nat.lt_irrefl z), if_neg (Nat.lt_irrefl z)]
    rfl
  | [], b :: m, r, s, _, h2 => by
    have := h2 b (by simp)
    show ordL (z :: r) (b :: (m ++ z :: s)) = _
    rw [ordL_cons, if_pos this]
    rfl
  | a :: l, [], r, s, h1, _ => by
    have := h1 a (by simp)
    show ordL (a :: (l ++ z :: r)) (z :: s) = _
    rw [ordL_cons, if_neg (by omega), if_pos this]
    rfl
  | a :: l, b :: m, r, s, h1, h2 => by
    show ordL (a :: (l ++ z :: r)) (b :: (m ++ z :: s)) = _
    rw [ordL, ordL]
    by_cases k1 : a < b
    · rw [if_pos k1, if_pos k1]; rfl
    · rw [if_neg k1, if_neg k1]
      by_cases k2 : b < a
      · rw [if_pos k2, if_pos k2]; rfl
      · rw [if_neg k2, if_neg k2]
        exact ordL_end r s (fun x hx => h1 x (by simp [hx])) (fun x hx => h2 x (by simp [hx]))

/-! Numbers of three bytes. -/
def three (p : Nat) : List Nat := [p / 65536, p / 256 % 256, p % 256]
theorem three_lt {p q : Nat} (r s : List Nat) (h : p < q) : ordL (three p ++ r) (three q ++ s) = -1 := by
  show ordL (p / 65536 :: p / 256 % 256 :: p % 256 :: r) (q / 65536 :: q / 256 % 256 :: q % 256 :: s) = -1
  rw [ordL]
  by_cases h1 : p / 65536 < q / 65536
  · rw [if_pos h1]
  · rw [if_neg h1, if_neg (by omega), ordL]
    by_cases h2 : p / 256 % 256 < q / 256 % 256
    · rw [if_pos h2]
    · rw [if_neg h2, if_neg (by omega), ordL, if_pos (by omega)]
theorem three_gt {p q : Nat} (r s : List Nat) (h : q < p) : ordL (three p ++ r) (three q ++ s) = 1 := by
  rw [ordL_neg, three_lt s r h]
  rfl
/-- Lists of numbers that are not 0, three bytes each, with three bytes 0 behind them, are compared as the lists, then what lies behind. -/
theorem three_end : ∀ {l m : List Nat} (r s : List Nat), (∀ x ∈ l, 0 < x) → (∀ x ∈ m, 0 < x) → ordL (l.flatMap three ++ (three 0 ++ r)) (m.flatMap three ++ (three 0 ++ s)) = thenI (ordL l m) (ordL r s)
  | [], [], r, s, _, _ => by
    show ordL (three 0 ++ r) (three 0 ++ s) = _
    rw [ordL_app]
    rfl
  | [], b :: m, r, s, _, h2 => by
    rw [List.flatMap_cons, List.append_assoc]
    exact three_lt r _ (h2 b (by simp))
  | a :: l, [], r, s, h1, _ => by
    rw [List.flatMap_cons, List.append_assoc]
    exact three_gt _ s (h1 a (by simp))
  | a :: l, b :: m, r, s, h1, h2 => by
    rw [List.flatMap_cons, List.flatMap_cons, List.append_assoc, List.append_assoc]
    rcases Nat.lt_trichotomy a b with h | h | h
    · rw [three_lt _ _ h, ordL, if_pos h]; rfl
    · subst h
      rw [ordL_app, ordL, if_neg (Nat.lt_irrefl a), if_neg (Nat.lt_irrefl a)]
      exact three_end r s (fun x hx => h1 x (by simp [hx])) (fun x hx => h2 x (by simp [hx]))
    · rw [three_gt _ _ h, ordL, if_neg (by omega), if_pos h]; rfl

end Go.Proofs.YtafnjbmeponobaaDoor
