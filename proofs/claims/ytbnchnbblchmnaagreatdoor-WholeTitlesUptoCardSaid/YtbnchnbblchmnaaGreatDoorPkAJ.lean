/-
  Folded forms and search forms in plain mathematics, and what the document promises of them.
  Joining, small letters, added marks, characters of search forms in plain mathematics.
-/
import Derived.Test.YtbnchnbblchmnaaGreatDoorPkAI
namespace Go.Proofs.YtbnchnbblchmnaaGreatDoor

/-! Small letters, plain letters. -/
def lowL : List (Nat × Nat) := [(198, 230), (216, 248), (208, 240), (222, 254), (272, 273), (294, 295), (321, 322), (338, 339), (330, 331), (358, 359), (1030, 1110), (1028, 1108), (1168, 1169)]
def lowN (c : Nat) : Nat :=
  if (inN c 65 90 || (inN c 913 937 && !Nat.beq c 930) || inN c 1040 1071) = true then c + 32 else if Nat.beq c 962 = true then 963
  else match lowL.find? fun x => Nat.beq x.1 c with | some x => x.2 | none => c
def plL : List (Nat × Nat) := [(248, 111), (240, 100), (273, 100), (295, 104), (305, 105), (322, 108), (359, 116)]
def plainL (c : Nat) : List Nat :=
  if Nat.beq c 230 = true then [97, 101] else if Nat.beq c 339 = true then [111, 101] else if Nat.beq c 254 = true then [116, 104] else if Nat.beq c 331 = true then [110, 103]
  else match plL.find? fun x => Nat.beq x.1 c with | some x => [x.2] | none => [c]
def low1 (c : Nat) : List Nat := if Nat.beq c 223 = true then [115, 115] else [lowN c]
/-- 1: a letter; 2: a mark; 3: a digit; 4: a blank; 5: another one. -/
def kN (c : Nat) : Nat := (clsF c).2
def isLD (c : Nat) : Bool := Nat.beq (kN c) 1 || Nat.beq (kN c) 3
/-- What a folded character brings to the search form, ahead of the squeezing of blanks. -/
def tokL (c : Nat) : List Nat := if Nat.beq (kN c) 2 = true then [] else if isLD c = true then plainL c else [32]

/-! Squeezing of blanks. -/
def sqT : Bool → List Nat → List Nat
  | _, [] => []
  | p, c :: l => if Nat.beq c 32 = true then sqT true l else (if p = true then [32] else []) ++ c :: sqT false l
def sq : List Nat → List Nat
  | [] => []
  | c :: l => if Nat.beq c 32 = true then sq l else c :: sqT false l
theorem sqT_sp (p : Bool) (l : List Nat) : sqT p (32 :: l) = sqT true l := by rw [sqT, if_pos (beq_true 32)]
theorem sqT_f {c : Nat} (h : c ≠ 32) (l : List Nat) : sqT false (c :: l) = c :: sqT false l := by
  rw [sqT, beq_false h]
  rfl
theorem sqT_t {c : Nat} (h : c ≠ 32) (l : List Nat) : sqT true (c :: l) = 32 :: c :: sqT false l := by
  rw [sqT, beq_false h]
  rfl
theorem sq_sp (l : List Nat) : sq (32 :: l) = sq l := by rw [sq, if_pos (beq_true 32)]
theorem sq_cons {c : Nat} (h : c ≠ 32) (l : List Nat) : sq (c :: l) = c :: sqT false l := by
  rw [sq, beq_false h]
  rfl
theorem sqT_true : ∀ m : List Nat, sqT true m = if sq m = [] then [] else 32 :: sq m
  | [] => rfl
  | c :: m => by
    by_cases h : c = 32
    · subst h
      rw [sqT_sp, sq_sp, sqT_true m]
    · rw [sqT_t h, sq_cons h, if_neg (by simp)]
theorem sqT_app (m : List Nat) : ∀ (l : List Nat) (p : Bool), sqT p (l ++ 32 :: m) = sqT p l ++ sqT true m
  | [], p => by
    rw [List.nil_append, sqT_sp]
    rfl
  | c :: l, p => by
    rw [List.cons_append]
    by_cases h : c = 32
    · subst h
      rw [sqT_sp, sqT_sp, sqT_app m l true]
    · cases p with
      | false => rw [sqT_f h, sqT_f h, sqT_app m l false]; rfl
      | true => rw [sqT_t h, sqT_t h, sqT_app m l false]; rfl
theorem sq_app (m : List Nat) : ∀ l : List Nat, sq (l ++ 32 :: m) = if sq l = [] then sq m else if sq m = [] then sq l else sq l ++ 32 :: sq m
  | [] => by
    rw [List.nil_append, sq_sp]
    rfl
  | c :: l => by
    rw [List.cons_append]
    by_cases h : c = 32
    · subst h
      rw [sq_sp, sq_sp, sq_app m l]
    · rw [sq_cons h, sq_cons h, if_neg (by simp), sqT_app, sqT_true]
      by_cases hm : sq m = []
      · rw [if_pos hm, if_pos hm, List.append_nil]
      · rw [if_neg hm, if_neg hm]
        rfl
theorem sqT_sq : ∀ (l : List Nat) (p : Bool), sqT false (sqT p l) = sqT p l
  | [], _ => rfl
  | c :: l, p => by
    by_cases h : c = 32
    · subst h
      rw [sqT_sp]
      exact sqT_sq l true
    · cases p with
      | false => rw [sqT_f h, sqT_f h, sqT_sq l false]
      | true => rw [sqT_t h, sqT_sp, sqT_t h, sqT_sq l false]
theorem sq_sq : ∀ l : List Nat, sq (sq l) = sq l
  | [] => rfl
  | c :: l => by
    by_cases h : c = 32
    · subst h
      rw [sq_sp]
      exact sq_sq l
    · rw [sq_cons h, sq_cons h, sqT_sq]
theorem sqT_mem : ∀ (l : List Nat) (p : Bool) (y : Nat), y ∈ sqT p l → y = 32 ∨ y ∈ l
  | [], _, _, h => by simp [sqT] at h
  | c :: l, p, y, h => by
    have key : ∀ q, y ∈ sqT q l → y = 32 ∨ y ∈ c :: l := fun q hq => (sqT_mem l q y hq).imp id (List.mem_cons_of_mem _)
    by_cases hc : c = 32
    · subst hc
      rw [sqT_sp] at h
      exact key true h
    · cases p with
      | false =>
        rw [sqT_f hc] at h
        rcases List.mem_cons.1 h with rfl | h
        · exact .inr (List.mem_cons_self ..)
        · exact key false h
      | true =>
        rw [sqT_t hc] at h
        rcases List.mem_cons.1 h with h | h
        · exact .inl h
        · rcases List.mem_cons.1 h with rfl | h
          · exact .inr (List.mem_cons_self ..)
          · exact key false h
theorem sq_mem : ∀ (l : List Nat) (y : Nat), y ∈ sq l → y = 32 ∨ y ∈ l
  | [], _, h => by simp [sq] at h
  | c :: l, y, h => by
    by_cases hc : c = 32
    · subst hc
      rw [sq_sp] at h
      exact (sq_mem l y h).imp id (List.mem_cons_of_mem _)
    · rw [sq_cons hc] at h
      rcases List.mem_cons.1 h with rfl | h
      · exact .inr (List.mem_cons_self ..)
      · exact (sqT_mem l false y h).imp id (List.mem_cons_of_mem _)
/-- A blank stands neither at the end nor ahead of another one. -/
theorem sqT_blank : ∀ (l : List Nat) (p : Bool) (i : Nat), (sqT p l)[i]? = some 32 → i + 1 < (sqT p l).length ∧ (sqT p l)[i + 1]? ≠ some 32
  | [], _, i, h => by simp [sqT] at h
  | c :: l, p, i, h => by
    by_cases hc : c = 32
    · subst hc
      rw [sqT_sp] at h ⊢
      exact sqT_blank l true i h
    · have key : ∀ j, (c :: sqT false l)[j]? = some 32 → j + 1 < (c :: sqT false l).length ∧ (c :: sqT false l)[j + 1]? ≠ some 32 := by
        intro j hj
        cases j with
        | zero =>
          simp at hj
          exact absurd hj hc
        | succ j =>
          have := sqT_blank l false j (by simpa using hj)
          simp
          simp at this
          exact ⟨by omega, this.2⟩
      cases p with
      | false =>
        rw [sqT_f hc] at h ⊢
        exact key i h
      | true =>
        rw [sqT_t hc] at h ⊢
        cases i with
        | zero =>
          simp
          exact fun e => hc e
        | succ i =>
          have := key i (by simpa using h)
          simp at this ⊢
          exact this
/-- Blanks of a squeezed list stand alone, between others. -/
theorem sq_blank {l : List Nat} {i : Nat} (h : (sq l)[i]? = some 32) : 0 < i ∧ i + 1 < (sq l).length ∧ (sq l)[i - 1]? ≠ some 32 := by
  induction l with
  | nil => simp [sq] at h
  | cons c l ih =>
    by_cases hc : c = 32
    · subst hc
      rw [sq_sp] at h ⊢
      exact ih h
    · rw [sq_cons hc] at h ⊢
      cases i with
      | zero =>
        simp at h
        exact absurd h hc
      | succ i =>
        have h1 : (sqT false l)[i]? = some 32 := by simpa using h
        have h2 := sqT_blank l false i h1
        refine ⟨by omega, by simp; omega, ?_⟩
        cases i with
        | zero =>
          simp
          exact hc
        | succ i =>
          intro e
          have e1 : (sqT false l)[i]? = some 32 := by simpa using e
          exact (sqT_blank l false i e1).2 h1

/-! Folded forms. -/
def foldL (d : List Nat) : List Nat := d.flatMap low1
def searchL (f : List Nat) : List Nat := sq (f.flatMap tokL)
def is1 (l : List Nat) (c : Nat) : Bool := match l with | [x] => Nat.beq x c | _ => false
theorem is1_eq {l : List Nat} {c : Nat} (h : is1 l c = true) : l = [c] := by
  unfold is1 at h
  split at h
  · rw [Nat.beq_eq] at h; rw [h]
  · cases h
theorem is1_of {l : List Nat} {c : Nat} (h : l = [c]) : is1 l c = true := by
  subst h
  exact beq_true c
/-- What holds of the plain letters of a letter or digit. -/
def goodE (e : Nat) : Bool := hasN e && is1 (wholeR e) e && Nat.beq (clF e) 0 && is1 (low1 e) e && is1 (plainL e) e && isLD e && !Nat.beq e 32 && (Nat.beq (kN e) 1 || Nat.ble e 57)
def goodD (c : Nat) : Bool := !(is1 (wholeR c) c) || ((low1 c).all fun d => hasN d && is1 (wholeR d) d && Nat.beq (clF d) (clF c) && is1 (low1 d) d && (!(isLD d) || (plainL d).all goodE))
theorem chars_good : (charL.all goodD) = true := by kernel_rfl
def eqB : List Nat → List Nat → Bool
  | [], [] => true
  | x :: l, y :: m => Nat.beq x y && eqB l m
  | _, _ => false
theorem eqB_eq : ∀ {l m : List Nat}, eqB l m = true → l = m
  | [], [], _ => rfl
  | x :: l, y :: m, h => by
    rw [eqB, Bool.and_eq_true, Nat.beq_eq] at h
    rw [h.1, eqB_eq h.2]
  | [], _ :: _, h => by cases h
  | _ :: _, [], h => by cases h
/-- What a character and its small letter stand for differs in the first character alone, which is no mark and has the same small letter. -/
def goodC (c : Nat) : Bool := Nat.beq (lowN c) c || (hasN (lowN c) && Nat.beq (lowN (lowN c)) (lowN c) && match wholeR c, wholeR (lowN c) with
  | b :: ms, d :: ns => eqB ms ns && Nat.beq (clF b) 0 && Nat.beq (clF d) 0 && eqB (low1 b) (low1 d)
  | _, _ => false)
theorem chars_low : (charL.all goodC) = true := by kernel_rfl
structure GoodD (c d : Nat) : Prop where
  has : hasN d = true
  whole : wholeR d = [d]
  cls : clM d = clM c
  low : low1 d = [d]
  plain : isLD d = true → ∀ e ∈ plainL d, goodE e = true
theorem good_low {c d : Nat} (hc : hasN c = true) (hw : wholeR c = [c]) (hd : d ∈ low1 c) : GoodD c d := by
  have h := List.all_eq_true.1 chars_good c ((char_mem c).2 hc)
  unfold goodD at h
  rw [is1_of hw, Bool.not_true, Bool.false_or, List.all_eq_true] at h
  have h2 := h d hd
  simp only [Bool.and_eq_true, Bool.or_eq_true, Bool.not_eq_true', List.all_eq_true, Nat.beq_eq] at h2
  obtain ⟨⟨⟨⟨h3, h4⟩, h5⟩, h6⟩, h7⟩ := h2
  refine ⟨h3, is1_eq h4, by rw [clM_eq, clM_eq, h5], is1_eq h6, fun hl => ?_⟩
  rcases h7 with h7 | h7
  · rw [hl] at h7; cases h7
  · exact h7
structure GoodE (e : Nat) : Prop where
  has : hasN e = true
  whole : wholeR e = [e]
  cls : clM e = 0
  low : low1 e = [e]
  plain : plainL e = [e]
  ld : isLD e = true
  nsp : e ≠ 32
  dig : kN e = 1 ∨ e ≤ 57
theorem good_e {e : Nat} (h : goodE e = true) : GoodE e := by
  unfold goodE at h
  simp only [Bool.and_eq_true, Bool.or_eq_true, Bool.not_eq_true', Nat.beq_eq, Nat.ble_eq] at h
  obtain ⟨⟨⟨⟨⟨⟨⟨h1, h2⟩, h3⟩, h4⟩, h5⟩, h6⟩, h7⟩, h8⟩ := h
  have h9 : clM e = 0 := by rw [clM_eq]; exact h3
  refine ⟨h1, is1_eq h2, h9, is1_eq h4, is1_eq h5, h6, fun e0 => ?_, h8⟩
  rw [e0, beq_true] at h7
  cases h7
/-- A list of characters that are decomposed. -/
def Dec (d : List Nat) : Prop := (∀ c ∈ d, hasN c = true) ∧ Plain d
theorem dec_dc (s : List UInt8) : Dec (dcF (nL s)) := ⟨dc_has s, plain_dcF _⟩
theorem fold_mem {d : List Nat} (h : Dec d) {y : Nat} (hy : y ∈ foldL d) : ∃ c ∈ d, GoodD c y := by
  unfold foldL at hy
  obtain ⟨c, hc, hm⟩ := List.mem_flatMap.1 hy
  exact ⟨c, hc, good_low (h.1 c hc) (h.2.1 c hc) hm⟩
theorem fold_same {f : List Nat} (h : ∀ y ∈ f, low1 y = [y]) : foldL f = f := by
  unfold foldL
  induction f with
  | nil => rfl
  | cons c f ih => rw [List.flatMap_cons, h c (by simp), ih fun y hy => h y (by simp [hy])]; rfl
theorem low1_head (c : Nat) : (low1 c = [lowN c]) ∨ (c = 223 ∧ low1 c = [115, 115]) := by
  unfold low1
  by_cases h : c = 223
  · exact .inr ⟨h, by rw [h]; rfl⟩
  · exact .inl (by rw [beq_false h]; rfl)
theorem srt_low : ∀ R : List Nat, (∀ c ∈ R, hasN c = true ∧ wholeR c = [c]) → Srt clM R → Srt clM (R.flatMap fun c => (low1 c).reverse)
  | [], _, _ => trivial
  | [y], _, _ => by
    rcases low1_head y with e | ⟨_, e⟩
    · rw [List.flatMap_cons, e]; trivial
    · rw [List.flatMap_cons, e]
      exact ⟨fun h => absurd h (by decide +kernel), trivial⟩
  | y :: x :: r, hall, h => by
    have ih := srt_low (x :: r) (fun c hc => hall c (List.mem_cons_of_mem _ hc)) h.2
    have hx := hall x (by simp)
    have hy := hall y (by simp)
    have hxz : ∃ z t, (x :: r).flatMap (fun c => (low1 c).reverse) = z :: t ∧ clM z = clM x := by
      rcases low1_head x with e | ⟨_, e⟩
      · exact ⟨lowN x, _, by rw [List.flatMap_cons, e]; rfl, (good_low hx.1 hx.2 (by rw [e]; simp)).cls⟩
      · exact ⟨115, _, by rw [List.flatMap_cons, e]; rfl, (good_low hx.1 hx.2 (by rw [e]; simp)).cls⟩
    obtain ⟨z, t, ez, hz⟩ := hxz
    rw [List.flatMap_cons, ez]
    rw [ez] at ih
    rcases low1_head y with e | ⟨e0, e⟩
    · have hc := (good_low hy.1 hy.2 (by rw [e]; simp : lowN y ∈ low1 y)).cls
      rw [e]
      refine ⟨fun h0 => ?_, ih⟩
      rw [hc] at h0 ⊢
      rw [hz]
      exact h.1 h0
    · have h115 : clM 115 = 0 := by decide +kernel
      rw [e]
      exact ⟨fun h0 => by omega, fun h0 => by omega, ih⟩
theorem fold_dec {d : List Nat} (h : Dec d) : Dec (foldL d) := by
  refine ⟨fun y hy => ?_, fun y hy => ?_, ?_⟩
  · obtain ⟨c, _, g⟩ := fold_mem h hy; exact g.has
  · obtain ⟨c, _, g⟩ := fold_mem h hy; exact g.whole
  · unfold foldL
    rw [List.reverse_flatMap]
    exact srt_low d.reverse (fun c hc => ⟨h.1 c (List.mem_reverse.1 hc), h.2.1 c (List.mem_reverse.1 hc)⟩) h.2.2
theorem fold_fold {d : List Nat} (h : Dec d) : foldL (foldL d) = foldL d := fold_same fun y hy => by
  obtain ⟨c, _, g⟩ := fold_mem h hy
  exact g.low

/-! Search forms. -/
theorem tok_mem {d : List Nat} (h : Dec d) {y : Nat} (hy : y ∈ (foldL d).flatMap tokL) : y = 32 ∨ GoodE y := by
  obtain ⟨c, hc, hm⟩ := List.mem_flatMap.1 hy
  obtain ⟨c0, _, g⟩ := fold_mem h hc
  unfold tokL at hm
  split at hm
  · simp at hm
  · split at hm
    · rename_i hl
      exact .inr (good_e (g.plain hl y hm))
    · exact .inl (List.mem_singleton.1 hm)
theorem search_mem {d : List Nat} (h : Dec d) {y : Nat} (hy : y ∈ searchL (foldL d)) : y = 32 ∨ GoodE y := by
  rcases sq_mem _ y hy with e | e
  · exact .inl e
  · exact tok_mem h e
theorem blank_facts : hasN 32 = true ∧ wholeR 32 = [32] ∧ clM 32 = 0 ∧ low1 32 = [32] ∧ tokL 32 = [32] := by decide +kernel
theorem tok_good {e : Nat} (h : GoodE e) : tokL e = [e] := by
  have h2 : Nat.beq (kN e) 2 = false := by
    have := h.ld
    unfold isLD at this
    rw [Bool.or_eq_true, Nat.beq_eq, Nat.beq_eq] at this
    exact beq_false (by omega)
  unfold tokL
  rw [h2, h.ld, h.plain]
  rfl
theorem search_facts {d : List Nat} (h : Dec d) {y : Nat} (hy : y ∈ searchL (foldL d)) : hasN y = true ∧ wholeR y = [y] ∧ clM y = 0 ∧ low1 y = [y] ∧ tokL y = [y] := by
  rcases search_mem h hy with rfl | g
  · exact blank_facts
  · exact ⟨g.has, g.whole, g.cls, g.low, tok_good g⟩
theorem search_dec {d : List Nat} (h : Dec d) : Dec (searchL (foldL d)) :=
  ⟨fun _ hy => (search_facts h hy).1, fun _ hy => (search_facts h hy).2.1, srt_zero _ fun _ hy => (search_facts h (List.mem_reverse.1 hy)).2.2.1⟩
theorem search_fold {d : List Nat} (h : Dec d) : foldL (searchL (foldL d)) = searchL (foldL d) := fold_same fun _ hy => (search_facts h hy).2.2.2.1
theorem search_search {d : List Nat} (h : Dec d) : searchL (searchL (foldL d)) = searchL (foldL d) := by
  have e : (searchL (foldL d)).flatMap tokL = searchL (foldL d) := by
    have key : ∀ f : List Nat, (∀ z ∈ f, tokL z = [z]) → f.flatMap tokL = f := by
      intro f
      induction f with
      | nil => intro _; rfl
      | cons c f ih => intro h; rw [List.flatMap_cons, h c (by simp), ih fun y hy => h y (by simp [hy])]; rfl
    exact key _ fun y hy => (search_facts h hy).2.2.2.2
  have e2 : searchL (searchL (foldL d)) = sq ((searchL (foldL d)).flatMap tokL) := rfl
  rw [e2, e]
  exact sq_sq _

/-! Of strings. -/
def nFL (s : List UInt8) : List Nat := foldL (dcF (nL s))
def nSL (s : List UInt8) : List Nat := searchL (nFL s)
def nFold (s : List UInt8) : List UInt8 := encL (nFL s)
def nSearch (s : List UInt8) : List UInt8 := encL (nSL s)
theorem dec_ok {d : List Nat} (h : Dec d) : ∀ c ∈ d, okC c := fun c hc => ok_of_has (h.1 c hc)
theorem nFL_dec (s : List UInt8) : Dec (nFL s) := fold_dec (dec_dc s)
theorem nSL_dec (s : List UInt8) : Dec (nSL s) := search_dec (dec_dc s)
theorem nL_nFold (s : List UInt8) : nL (nFold s) = nFL s := nL_enc (dec_ok (nFL_dec s))
theorem nL_nSearch (s : List UInt8) : nL (nSearch s) = nSL s := nL_enc (dec_ok (nSL_dec s))
theorem dc_dec {d : List Nat} (h : Dec d) : dcF d = d := dcF_plain h.2
theorem nFL_nFold (s : List UInt8) : nFL (nFold s) = nFL s := by
  have e : nFL (nFold s) = foldL (dcF (nL (nFold s))) := rfl
  rw [e, nL_nFold, dc_dec (nFL_dec s)]
  exact fold_fold (dec_dc s)
theorem nFL_nSearch (s : List UInt8) : nFL (nSearch s) = nSL s := by
  have e : nFL (nSearch s) = foldL (dcF (nL (nSearch s))) := rfl
  rw [e, nL_nSearch, dc_dec (nSL_dec s)]
  exact search_fold (dec_dc s)
theorem nFold_nFold (s : List UInt8) : nFold (nFold s) = nFold s := by
  have e : nFold (nFold s) = encL (nFL (nFold s)) := rfl
  rw [e, nFL_nFold]
  rfl
theorem nSearch_nFold (s : List UInt8) : nSearch (nFold s) = nSearch s := by
  have e : nSearch (nFold s) = encL (searchL (nFL (nFold s))) := rfl
  rw [e, nFL_nFold]
  rfl
theorem nFold_nSearch (s : List UInt8) : nFold (nSearch s) = nSearch s := by
  have e : nFold (nSearch s) = encL (nFL (nSearch s)) := rfl
  rw [e, nFL_nSearch]
  rfl
theorem nSearch_nSearch (s : List UInt8) : nSearch (nSearch s) = nSearch s := by
  have e : nSearch (nSearch s) = encL (searchL (nFL (nSearch s))) := rfl
  rw [e, nFL_nSearch]
  show encL (searchL (searchL (foldL (dcF (nL s))))) = _
  rw [search_search (dec_dc s)]
  rfl
theorem fold_equal {s t : List UInt8} (h : nEq s t = true) : nFL s = nFL t := by
  unfold nEq at h
  rw [Bool.and_eq_true, decide_eq_true_eq] at h
  unfold nFL
  rw [nD_inj h.2]

end Go.Proofs.YtbnchnbblchmnaaGreatDoor

namespace Go.Proofs.YtbnchnbblchmnaaGreatDoor

theorem ins_one (c x : Nat) (hx : clM x = 0) : ∀ A : List Nat, insB clM c (A ++ [x]) = insB clM c A ++ [x]
  | [] => by
    have h : ¬ (0 < clM c ∧ clM c < clM x) := by omega
    show (if 0 < clM c ∧ clM c < clM x then _ else _) = _
    rw [if_neg h]
    rfl
  | p :: A => by
    rw [List.cons_append, insB, insB]
    split
    · rw [ins_one c x hx A]; rfl
    · rfl
theorem sort_one (x : Nat) (hx : clM x = 0) : ∀ (l A : List Nat), sortB clM (A ++ [x]) l = sortB clM A l ++ [x]
  | [], _ => rfl
  | c :: l, A => by rw [sortB_cons, sortB_cons, ins_one c x hx A, sort_one x hx l]
theorem sort_first {b : Nat} (hb : clM b = 0) (X : List Nat) : (sortB clM [] (b :: X)).reverse = b :: (sortB clM [] X).reverse := by
  have h := sort_one b hb X []
  rw [sortB_cons, show insB clM b [] = [] ++ [b] from rfl, h, List.reverse_append]
  rfl
theorem dc_blank (l m : List Nat) : dcF (l ++ 32 :: m) = dcF l ++ 32 :: dcF m := by
  rw [dcF_join l (32 :: m) (fun c hc => by simp at hc; subst hc; exact blank_facts.2.2.1)]
  congr 1
  unfold dcF
  rw [List.flatMap_cons, blank_facts.2.1, List.singleton_append, sort_first blank_facts.2.2.1]
theorem fold_app (a b : List Nat) : foldL (a ++ b) = foldL a ++ foldL b := List.flatMap_append
theorem fold_blank (b : List Nat) : foldL (32 :: b) = 32 :: foldL b := by
  unfold foldL
  rw [List.flatMap_cons, blank_facts.2.2.2.1]
  rfl
theorem dec_blank : decR [32] = some [32] := by
  have h := dec_enc [32] (fun c hc => by rw [List.mem_singleton.1 hc]; exact ok_of_has blank_facts.1)
  exact h
theorem nL_blank {s t : List UInt8} (hs : (decR s).isSome = true) (ht : (decR t).isSome = true) : nL (s ++ 32 :: t) = nL s ++ 32 :: nL t := by
  have hb : (decR [32]).isSome = true := by rw [dec_blank]; rfl
  have h1 : nL ([32] ++ t) = nL [32] ++ nL t := nL_app hb ht
  have h3 : (decR ([32] ++ t)).isSome = true := by
    rw [dec_app dec_blank, Option.isSome_map]
    exact ht
  have h4 := nL_app hs h3
  rw [show s ++ 32 :: t = s ++ ([32] ++ t) from rfl, h4, h1]
  have : nL [32] = [32] := by unfold nL; rw [dec_blank]; rfl
  rw [this]
  rfl
theorem nFL_blank {s t : List UInt8} (hs : (decR s).isSome = true) (ht : (decR t).isSome = true) : nFL (s ++ 32 :: t) = nFL s ++ 32 :: nFL t := by
  unfold nFL
  rw [nL_blank hs ht, dc_blank, fold_app, fold_blank]
theorem nSL_blank {s t : List UInt8} (hs : (decR s).isSome = true) (ht : (decR t).isSome = true) : nSL (s ++ 32 :: t) = if nSL s = [] then nSL t else if nSL t = [] then nSL s else nSL s ++ 32 :: nSL t := by
  unfold nSL searchL
  rw [nFL_blank hs ht, List.flatMap_append, List.flatMap_cons, blank_facts.2.2.2.2]
  exact sq_app _ _
theorem encL_nil {l : List Nat} : encL l = [] ↔ l = [] := by
  constructor
  · intro h
    cases l with
    | nil => rfl
    | cons c l =>
      rw [show encL (c :: l) = encC c ++ encL l from rfl] at h
      exact absurd (List.append_eq_nil_iff.1 h).1 (encC_ne c)
  · rintro rfl; rfl
/-- One string more. -/
def joinStep (out x : List UInt8) : List UInt8 := if x ≠ [] ∧ out ≠ [] then out ++ 32 :: x else out ++ x
def nJoin (l : List (List UInt8)) : List UInt8 := l.foldl (fun out s => joinStep out (nSearch s)) []
theorem join_two {s t : List UInt8} (hs : (decR s).isSome = true) (ht : (decR t).isSome = true) : nSearch (s ++ 32 :: t) = nJoin [s, t] := by
  have e : nJoin [s, t] = joinStep (joinStep [] (nSearch s)) (nSearch t) := rfl
  have e1 : joinStep [] (nSearch s) = nSearch s := by
    unfold joinStep
    rw [if_neg (fun h => h.2 rfl)]
    rfl
  rw [e, e1]
  unfold joinStep nSearch
  rw [nSL_blank hs ht]
  have n1 : encL (nSL s) = [] ↔ nSL s = [] := encL_nil
  have n2 : encL (nSL t) = [] ↔ nSL t = [] := encL_nil
  by_cases h1 : nSL s = []
  · rw [if_pos h1, if_neg (fun h => h.2 (n1.2 h1)), n1.2 h1]
    rfl
  · rw [if_neg h1]
    by_cases h2 : nSL t = []
    · rw [if_pos h2, if_neg (fun h => h.1 (n2.2 h2)), n2.2 h2, List.append_nil]
    · rw [if_neg h2, if_pos ⟨fun h => h2 (n2.1 h), fun h => h1 (n1.1 h)⟩, encL_app]
      rfl

/-! Small letters. -/
theorem low_parts {c : Nat} (hc : hasN c = true) : lowN c = c ∨ (hasN (lowN c) = true ∧ lowN (lowN c) = lowN c ∧ ∃ b d ms, wholeR c = b :: ms ∧ wholeR (lowN c) = d :: ms ∧ clM b = 0 ∧ clM d = 0 ∧ low1 b = low1 d) := by
  have h := List.all_eq_true.1 chars_low c ((char_mem c).2 hc)
  unfold goodC at h
  rw [Bool.or_eq_true, Nat.beq_eq] at h
  rcases h with h | h
  · exact .inl h
  · right
    rw [Bool.and_eq_true, Bool.and_eq_true, Nat.beq_eq] at h
    obtain ⟨⟨h1, h2⟩, h3⟩ := h
    refine ⟨h1, h2, ?_⟩
    split at h3
    · rename_i b ms d ns e1 e2
      simp only [Bool.and_eq_true, Nat.beq_eq] at h3
      obtain ⟨⟨⟨g1, g2⟩, g3⟩, g4⟩ := h3
      have := eqB_eq g1
      subst this
      exact ⟨b, d, ms, e1, e2, by rw [clM_eq]; exact g2, by rw [clM_eq]; exact g3, eqB_eq g4⟩
    · cases h3
theorem low_low {c : Nat} (hc : hasN c = true) : lowN (lowN c) = lowN c := by
  rcases low_parts hc with h | h
  · rw [h, h]
  · exact h.2.1
theorem low_has {c : Nat} (hc : hasN c = true) : hasN (lowN c) = true := by
  rcases low_parts hc with h | h
  · rw [h]; exact hc
  · exact h.1
theorem dc_split (P Q : List Nat) {c b : Nat} {ms : List Nat} (hw : wholeR c = b :: ms) (hb : clM b = 0) : dcF (P ++ c :: Q) = dcF P ++ b :: (sortB clM [] (ms ++ Q.flatMap wholeR)).reverse := by
  have hc : clM c = 0 := by
    rcases Nat.eq_zero_or_pos (clM c) with h | h
    · exact h
    · have := whole_mark h
      rw [hw] at this
      injection this with e1 _
      rw [e1] at hb
      exact hb
  rw [dcF_join P (c :: Q) (fun x hx => by simp at hx; subst hx; exact hc)]
  congr 1
  unfold dcF
  rw [List.flatMap_cons, hw, List.cons_append, sort_first hb]
theorem fold_low (P Q : List Nat) {c : Nat} (hc : hasN c = true) : foldL (dcF (P ++ lowN c :: Q)) = foldL (dcF (P ++ c :: Q)) := by
  rcases low_parts hc with h | ⟨_, _, b, d, ms, e1, e2, h1, h2, h3⟩
  · rw [h]
  · rw [dc_split P Q e1 h1, dc_split P Q e2 h2, fold_app, fold_app]
    congr 1
    unfold foldL
    rw [List.flatMap_cons, List.flatMap_cons, h3]
theorem nFL_low (P Q : List Nat) {c : Nat} (hP : ∀ x ∈ P, hasN x = true) (hQ : ∀ x ∈ Q, hasN x = true) (hc : hasN c = true) : nFL (encL (P ++ lowN c :: Q)) = nFL (encL (P ++ c :: Q)) := by
  have g : ∀ y, hasN y = true → ∀ x ∈ P ++ y :: Q, okC x := by
    intro y hy x hx
    rcases List.mem_append.1 hx with hx | hx
    · exact ok_of_has (hP x hx)
    · rcases List.mem_cons.1 hx with rfl | hx
      · exact ok_of_has hy
      · exact ok_of_has (hQ x hx)
  unfold nFL
  rw [nL_enc (g _ (low_has hc)), nL_enc (g c hc), fold_low P Q hc]

/-! Added marks. -/
theorem ins_filter (c : Nat) : ∀ R : List Nat, (insB clM c R).filter (fun x => !isM x) = [c].filter (fun x => !isM x) ++ R.filter (fun x => !isM x)
  | [] => by rw [insB, List.filter_nil, List.append_nil]
  | p :: R => by
    rw [insB]
    split
    · rename_i h
      have h1 : isM p = true := isM_pos.2 (by omega)
      have h2 : isM c = true := isM_pos.2 h.1
      have e1 : (p :: insB clM c R).filter (fun x => !isM x) = (insB clM c R).filter fun x => !isM x := List.filter_cons_of_neg (by rw [h1]; simp)
      have e2 : (p :: R).filter (fun x => !isM x) = R.filter fun x => !isM x := List.filter_cons_of_neg (by rw [h1]; simp)
      rw [e1, e2, ins_filter c R]
    · rw [show c :: p :: R = [c] ++ p :: R from rfl, List.filter_append]
theorem sort_filter : ∀ (l R : List Nat), (sortB clM R l).filter (fun x => !isM x) = (l.filter fun x => !isM x).reverse ++ R.filter fun x => !isM x
  | [], R => by rw [sortB_nil, List.filter_nil]; rfl
  | c :: l, R => by
    rw [sortB_cons, sort_filter l, ins_filter, show c :: l = [c] ++ l from rfl, List.filter_append, List.reverse_append, List.append_assoc]
    congr 2
    by_cases h : isM c = true
    · rw [List.filter_cons_of_neg (by rw [h]; simp)]; rfl
    · rw [List.filter_cons_of_pos (by simpa using h)]; rfl
theorem dc_filter (l : List Nat) : (dcF l).filter (fun x => !isM x) = (l.flatMap wholeR).filter fun x => !isM x := by
  unfold dcF
  rw [List.filter_reverse, sort_filter, List.filter_nil, List.append_nil, List.reverse_reverse]
theorem mark_tok {c : Nat} (h : isM c = true) : (low1 c).flatMap tokL = [] := by
  have hk : isMarkA c = true := by
    have h0 := isM_pos.1 h
    rw [clM_eq] at h0
    unfold clF at h0
    split at h0
    · assumption
    · omega
  have key : ∀ x ∈ [768, 769, 770, 771, 772, 774, 775, 776, 778, 779, 780, 803, 807, 808], eqB ((low1 x).flatMap tokL) [] = true := by decide +kernel
  refine eqB_eq (key c ?_)
  unfold isMarkA inN at hk
  simp only [Bool.or_eq_true, Bool.and_eq_true, Nat.ble_eq, Nat.beq_eq] at hk
  simp only [List.mem_cons, List.not_mem_nil, or_false]
  omega
theorem tok_filter : ∀ d : List Nat, (foldL d).flatMap tokL = (foldL (d.filter fun x => !isM x)).flatMap tokL
  | [] => rfl
  | c :: d => by
    have ih := tok_filter d
    have e : foldL (c :: d) = low1 c ++ foldL d := List.flatMap_cons
    by_cases h : isM c = true
    · rw [List.filter_cons_of_neg (by rw [h]; simp), e, List.flatMap_append, mark_tok h, List.nil_append, ih]
    · have e2 : foldL (c :: d.filter fun x => !isM x) = low1 c ++ foldL (d.filter fun x => !isM x) := List.flatMap_cons
      rw [List.filter_cons_of_pos (by simpa using h), e, e2, List.flatMap_append, List.flatMap_append, ih]
theorem search_marks (P Q : List Nat) {m : Nat} (hm : isM m = true) : searchL (foldL (dcF (P ++ m :: Q))) = searchL (foldL (dcF (P ++ Q))) := by
  unfold searchL
  rw [tok_filter (dcF (P ++ m :: Q)), tok_filter (dcF (P ++ Q)), dc_filter, dc_filter, List.flatMap_append, List.flatMap_append, List.flatMap_cons, whole_mark (isM_pos.1 hm)]
  have e : (P.flatMap wholeR ++ ([m] ++ Q.flatMap wholeR)).filter (fun x => !isM x) = (P.flatMap wholeR ++ Q.flatMap wholeR).filter fun x => !isM x := by
    rw [List.filter_append, List.filter_append, List.filter_append, List.filter_cons_of_neg (by rw [hm]; simp)]
    rfl
  rw [e]
theorem three_marks {m : Nat} (h1 : 768 ≤ m) (h2 : m ≤ 770) : isM m = true ∧ hasN m = true := by
  have : m = 768 ∨ m = 769 ∨ m = 770 := by omega
  rcases this with rfl | rfl | rfl
  all_goals decide +kernel
theorem nSL_marks (P Q : List Nat) {m : Nat} (hP : ∀ x ∈ P, hasN x = true) (hQ : ∀ x ∈ Q, hasN x = true) (h1 : 768 ≤ m) (h2 : m ≤ 770) : nSL (encL (P ++ m :: Q)) = nSL (encL (P ++ Q)) := by
  have hm := three_marks h1 h2
  have g1 : ∀ x ∈ P ++ Q, okC x := by
    intro x hx
    rcases List.mem_append.1 hx with hx | hx
    · exact ok_of_has (hP x hx)
    · exact ok_of_has (hQ x hx)
  have g2 : ∀ x ∈ P ++ m :: Q, okC x := by
    intro x hx
    rcases List.mem_append.1 hx with hx | hx
    · exact ok_of_has (hP x hx)
    · rcases List.mem_cons.1 hx with rfl | hx
      · exact ok_of_has hm.2
      · exact ok_of_has (hQ x hx)
  unfold nSL nFL
  rw [nL_enc g1, nL_enc g2, search_marks P Q hm.1]

/-! Characters of search forms. -/
theorem good_lower {e : Nat} (h : GoodE e) : lowN e = e := by
  rcases low1_head e with g | ⟨_, g⟩
  · have := h.low
    rw [g] at this
    injection this
  · have := h.low
    rw [g] at this
    injection this with _ h2
    cases h2
/-- What the document says of the characters of a search form. -/
theorem search_chars (s : List UInt8) {i y : Nat} (h : (nSL s)[i]? = some y) : (y = 32 ∧ 0 < i ∧ i + 1 < (nSL s).length ∧ (nSL s)[i - 1]? ≠ some 32) ∨ (y ≠ 32 ∧ ((kN y = 3 ∧ y ≤ 57) ∨ (kN y = 1 ∧ lowN y = y))) := by
  rcases search_mem (dec_dc s) (List.mem_of_getElem? h) with rfl | g
  · exact .inl ⟨rfl, sq_blank h⟩
  · refine .inr ⟨g.nsp, ?_⟩
    have hl := g.ld
    unfold isLD at hl
    rw [Bool.or_eq_true, Nat.beq_eq, Nat.beq_eq] at hl
    rcases hl with hl | hl
    · exact .inr ⟨hl, good_lower g⟩
    · refine .inl ⟨hl, ?_⟩
      rcases g.dig with h2 | h2
      · omega
      · exact h2

end Go.Proofs.YtbnchnbblchmnaaGreatDoor
