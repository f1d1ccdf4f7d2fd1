/-
  The reference's Skip, Strip, Invert, Sort.
  How the program parts a title, as plain mathematics: as the reference does.
  The program's map of articles: a map of the call's own that holds a slice for each language.
-/
import Derived.Test.YtbnchnbblchmnaaGreatDoorPkBG
import Derived.BigQuiet
import Derived.Lib.TrimByte
import Derived.Test.YtbnchnbblchmnaaGreatDoorPkAM
import Derived.Maps.OwnSet
namespace Go.Proofs.YtbnchnbblchmnaaGreatDoor
open Go.RowKit

theorem begin_le (lang s : List UInt8) : (beginN lang s).1 ≤ s.length ∧ (beginN lang s).2 ≤ s.length := by
  by_cases h : (beginN lang s).2 = 0
  · refine ⟨?_, by omega⟩
    unfold beginN at h ⊢
    split
    · rename_i hd
      rw [if_pos hd] at h
      unfold hitsN at h ⊢
      cases hf : (artsOf lang).findSome? (artHit s (wordN s) (cutR s 2).length) with
      | none => exact Nat.zero_le _
      | some v =>
        rw [hf] at h
        obtain ⟨a, _, h1⟩ := List.exists_of_findSome?_eq_some hf
        unfold artHit at h1
        show v.1 ≤ s.length
        split at h1
        · split at h1
          · rename_i hc
            injection h1 with h1
            rw [← h1]
            exact Nat.le_of_lt hc.2.1
          · cases h1
        · split at h1
          · injection h1 with h1
            rw [← h1]
            obtain ⟨-, -, -, -, hwl⟩ := word_split s
            exact hwl
          · cases h1
    · exact Nat.zero_le _
  · obtain ⟨p, m, a, h1, h2, h3, h4, h5, h6, h7, h8, hc⟩ := skip_split (lang := lang) (s := s) h
    have hl : skipN lang s ≤ s.length := by rw [← h4, h2, List.length_append]; omega
    refine ⟨?_, hl⟩
    rcases hc with ⟨_, _, e⟩ | ⟨q, k, e1, _, _, _, e2⟩
    · rw [e]; exact hl
    · rw [e2]
      refine Nat.le_trans ?_ hl
      rw [← h4, e1, encL_app, List.length_append]
      omega

end Go.Proofs.YtbnchnbblchmnaaGreatDoor

namespace Go.Proofs.YtbnchnbblchmnaaGreatDoor

theorem arts_apo {lang a : List UInt8} (ha : a ∈ artsOf lang) : (apoB a = true → a = [108, 39]) ∧ (apoB a = false → a[1]? ≠ some 39) := by
  have hall : (artT.all fun l => l.all fun a => if apoB a = true then a == [108, 39] else !(a[1]? == some 39)) = true := by decide +kernel
  unfold artsOf at ha
  cases hf : (langT.zip artT).find? fun p => p.1 == lang with
  | none => rw [hf] at ha; cases ha
  | some p =>
    rw [hf] at ha
    have hp := (List.of_mem_zip (List.mem_of_find?_eq_some hf)).2
    have h1 := List.all_eq_true.1 (List.all_eq_true.1 hall _ hp) a ha
    refine ⟨fun e => ?_, fun e h2 => ?_⟩
    · rw [if_pos e] at h1; simpa using h1
    · rw [if_neg (by rw [e]; exact Bool.false_ne_true), h2] at h1
      simp at h1
theorem has_of_ok9 {c : Nat} (h : okC c) : hasN c = true := by
  have hk9 := h.2
  rw [← hasN_eq]
  show (kindR (c : Int) != 0) = true
  simpa using hk9
theorem apo_facts {c : Nat} (hc : c = 39 ∨ c = 65287) : ∃ d, wholeR c = [d] ∧ clM d = 0 ∧ low1 d = [39] ∧ clM c = 0 := by
  rcases hc with rfl | rfl
  · exact ⟨39, by decide +kernel⟩
  · exact ⟨39, by decide +kernel⟩
theorem fold_apo9 {c : Nat} (hc : c = 39 ∨ c = 65287) (a m : List Nat) : ∃ z, foldL (dcF (a ++ c :: m)) = foldL (dcF a) ++ 39 :: z := by
  obtain ⟨d, h1, h2, h3, h4⟩ := apo_facts hc
  rw [dcF_join a (c :: m) (fun x hx => by simp at hx; subst hx; exact h4)]
  have h5 : dcF (c :: m) = d :: (sortB clM [] (m.flatMap wholeR)).reverse := by
    unfold dcF
    rw [List.flatMap_cons, h1]
    exact sort_first h2 _
  refine ⟨foldL (sortB clM [] (m.flatMap wholeR)).reverse, ?_⟩
  rw [h5]
  unfold foldL
  rw [List.flatMap_append, List.flatMap_cons, h3]
  rfl
/-- A title's first two characters and its first word are not both articles of their kinds. -/
theorem no_both {lang s : List UInt8} {l : List Nat} (hl : decR s = some l)
    (h1 : nFold (s.take (cutR s 2).length) ∈ artsOf lang) (h2 : apoB (nFold (s.take (cutR s 2).length)) = true)
    (h3 : nFold (s.take (wordN s)) ∈ artsOf lang) (h4 : apoB (nFold (s.take (wordN s))) = false) : False := by
  obtain ⟨hs, hok⟩ := enc_dec hl
  have hsp : s = encL (l.take 2) ++ encL (l.drop 2) := by rw [← encL_app, List.take_append_drop, hs]
  have htk : s.take (cutR s 2).length = encL (l.take 2) := by
    rw [cutR_some hl (by decide)]
    show s.take (encL (l.take 2)).length = encL (l.take 2)
    conv => lhs; rw [hsp]
    exact List.take_left
  have hE := (arts_apo h1).1 h2
  have hok2 : ∀ c ∈ l.take 2, okC c := fun c hc => hok c (List.mem_of_mem_take hc)
  rw [htk, fold_enc hok2] at hE
  have hX : foldL (dcF (l.take 2)) = [108, 39] := by
    have h5 : decR (encL (foldL (dcF (l.take 2)))) = some (foldL (dcF (l.take 2))) := by
      refine dec_enc _ ?_
      have h6 := dec_ok (nFL_dec (encL (l.take 2)))
      unfold nFL at h6
      rwa [nL_enc hok2] at h6
    rw [hE, show decR [108, 39] = some [108, 39] by decide +kernel] at h5
    exact (Option.some.inj h5).symm
  obtain ⟨c, hc, hc2⟩ := fold_mem39 (fun c hc => has_of_ok9 (hok2 c hc)) (by rw [hX]; simp)
  have h0 : foldL (dcF []) = [] := rfl
  have hfirst : ∀ (x : Nat) (t : List Nat), l.take 2 = x :: t → (x = 39 ∨ x = 65287) → False := by
    intro x t e hx
    obtain ⟨z, hz⟩ := fold_apo9 hx [] t
    rw [e] at hX
    rw [List.nil_append, hX, h0, List.nil_append] at hz
    injection hz with hz
    omega
  match l, hl, hs, hok, hsp, hX, hc, hfirst with
  | [], _, _, _, _, _, hc, _ => cases hc
  | [c1], _, _, _, _, _, hc, hfirst =>
    simp only [List.take_succ_cons, List.take_nil, List.mem_singleton] at hc
    subst hc
    exact hfirst _ _ rfl hc2
  | c1 :: c2 :: m, hl, hs, hok, hsp, hX, hc, hfirst =>
    simp only [List.take_succ_cons, List.take_zero, List.mem_cons, List.not_mem_nil, or_false] at hc
    rcases hc with e | e
    · subst e
      exact hfirst _ _ rfl hc2
    · subst e
      obtain ⟨z, hz⟩ := fold_apo9 hc2 [c1] []
      have hF : foldL (dcF [c1]) = [108] := by
        have hX2 : foldL (dcF [c1, c]) = [108, 39] := hX
        rw [show [c1] ++ [c] = [c1, c] from rfl, hX2] at hz
        generalize foldL (dcF [c1]) = F at hz
        match F, hz with
        | [], hz => injection hz with hz; omega
        | [x], hz => injection hz with hz; rw [← hz]
        | x :: y :: F, hz =>
          have h9 := congrArg List.length hz
          simp at h9
      have h32 : c1 ≠ 32 := by
        intro e
        rw [e, dcF_one, blank_facts.2.1] at hF
        unfold foldL at hF
        rw [List.flatMap_cons, blank_facts.2.2.2.1] at hF
        injection hF with hF
        omega
      have h32b : c ≠ 32 := by omega
      have hok12 : ∀ x ∈ [c1, c], okC x := fun x hx => hok x (by
        rcases List.mem_cons.1 hx with rfl | hx
        · exact List.mem_cons_self
        · rw [List.mem_singleton.1 hx]; exact List.mem_cons_of_mem _ List.mem_cons_self)
      have hokm : ∀ x ∈ m, okC x := fun x hx => hok x (List.mem_cons_of_mem _ (List.mem_cons_of_mem _ hx))
      have hnb : (32 : UInt8) ∉ encL [c1, c] := by
        rw [blank_mem hok12]
        intro hm
        rcases List.mem_cons.1 hm with e | hm
        · exact h32 e.symm
        · exact h32b (List.mem_singleton.1 hm).symm
      have hs2 : s = encL [c1, c] ++ encL m := hsp
      obtain ⟨q, r, q1, q2, q3⟩ := word_enc m hokm
      have hword : s.take (wordN s) = encL (c1 :: c :: q) := by
        rw [hs2, word_app _ hnb, List.take_append, List.take_of_length_le (by omega), Nat.add_sub_cancel_left, q3, ← encL_app]
        rfl
      have hokq : ∀ x ∈ c1 :: c :: q, okC x := fun x hx => hok x (by
        rw [q1]
        rcases List.mem_cons.1 hx with rfl | hx
        · exact List.mem_cons_self
        · refine List.mem_cons_of_mem _ ?_
          rcases List.mem_cons.1 hx with rfl | hx
          · exact List.mem_cons_self
          · exact List.mem_cons_of_mem _ (List.mem_append_left _ hx))
      obtain ⟨z2, hz2⟩ := fold_apo9 hc2 [c1] q
      have hno := (arts_apo h3).2 h4
      rw [hword, fold_enc hokq] at hno
      refine hno ?_
      rw [show c1 :: c :: q = [c1] ++ c :: q from rfl, hz2, hF]
      rfl

/-! The program's parting. -/
def spaceN (s : List UInt8) : Nat × Nat := if spN s (wordN s) < s.length then (wordN s, spN s (wordN s)) else (0, 0)
def artB (lang x : List UInt8) (el : Bool) : Bool := (apoB (nFold x) == el) && decide (nFold x ∈ artsOf lang)
def divN (lang s : List UInt8) : Nat × Nat :=
  if (cutR s 2).length = 0 then (0, 0)
  else if artB lang (s.take (cutR s 2).length) true = true ∧ (cutR s 2).length < s.length ∧ s[(cutR s 2).length]? ≠ some 32 then ((cutR s 2).length, (cutR s 2).length)
  else if artB lang (s.take (spaceN s).1) false = true then spaceN s else (0, 0)
theorem artB_iff {lang x : List UInt8} {el : Bool} : artB lang x el = true ↔ apoB (nFold x) = el ∧ nFold x ∈ artsOf lang := by
  unfold artB
  rw [Bool.and_eq_true, beq_iff_eq, decide_eq_true_iff]
theorem fold_nil9 : nFold [] = [] := rfl
theorem div_begin (lang s : List UInt8) : divN lang s = beginN lang s := by
  unfold beginN
  cases hd : decR s with
  | none =>
    unfold divN
    rw [cutR_none hd]
    rfl
  | some l =>
    rw [if_pos (show (some l).isSome = true from rfl)]
    obtain ⟨hs, hok⟩ := enc_dec hd
    have hcut : cutR s 2 = encL (l.take 2) := cutR_some hd (by decide)
    by_cases h0 : (cutR s 2).length = 0
    · have hl : l = [] := by
        cases l with
        | nil => rfl
        | cons c l =>
          exfalso
          rw [hcut] at h0
          have h1 := enc_head_len (m := (c :: l).take 2) (by simp)
          omega
      subst hl
      have hs0 : s = [] := by rw [← hs]; rfl
      subst hs0
      have h1 : divN lang [] = (0, 0) := by
        unfold divN
        rw [if_pos h0]
      rw [h1, hits_none]
      rw [List.findSome?_eq_none_iff]
      intro a ha
      have hne := (arts_ne ha).1
      unfold artHit
      simp only [List.take_nil, fold_nil9]
      split
      · rw [if_neg]; rintro ⟨e, -⟩; exact hne e.symm
      · rw [if_neg]; rintro ⟨e, -⟩; exact hne e.symm
    unfold divN
    rw [if_neg h0]
    by_cases hA : artB lang (s.take (cutR s 2).length) true = true ∧ (cutR s 2).length < s.length ∧ s[(cutR s 2).length]? ≠ some 32
    · rw [if_pos hA]
      obtain ⟨hA1, hA2, hA3⟩ := hA
      obtain ⟨ha1, ha2⟩ := artB_iff.1 hA1
      have hfc : (artsOf lang).findSome? (artHit s (wordN s) (cutR s 2).length) = some ((cutR s 2).length, (cutR s 2).length) := by
       refine find_const (fun b hb => ?_) ha2 ?_
       · cases hbp : apoB b with
         | true =>
          unfold artHit
          rw [if_pos hbp]
          split
          · exact .inr rfl
          · exact .inl rfl
         | false =>
          left
          unfold artHit
          rw [if_neg (by rw [hbp]; exact Bool.false_ne_true), if_neg]
          rintro ⟨e, -⟩
          subst e
          exact no_both hd ha2 ha1 hb hbp
       · unfold artHit
         rw [if_pos ha1, if_pos ⟨rfl, hA2, hA3⟩]
      unfold hitsN
      rw [hfc]
      rfl
    · rw [if_neg hA]
      have hnoA : ∀ b ∈ artsOf lang, apoB b = true → artHit s (wordN s) (cutR s 2).length b = none := by
        intro b hb hbp
        unfold artHit
        rw [if_pos hbp, if_neg]
        rintro ⟨e, e2, e3⟩
        subst e
        exact hA ⟨artB_iff.2 ⟨hbp, hb⟩, e2, e3⟩
      by_cases hS : spN s (wordN s) < s.length
      · have hsn : spaceN s = (wordN s, spN s (wordN s)) := if_pos hS
        rw [hsn]
        by_cases hB : artB lang (s.take (wordN s)) false = true
        · rw [if_pos hB]
          obtain ⟨hb1, hb2⟩ := artB_iff.1 hB
          have hfc : (artsOf lang).findSome? (artHit s (wordN s) (cutR s 2).length) = some (wordN s, spN s (wordN s)) := by
           refine find_const (fun b hb => ?_) hb2 ?_
           · cases hbp : apoB b with
             | true => exact .inl (hnoA b hb hbp)
             | false =>
              unfold artHit
              rw [if_neg (by rw [hbp]; exact Bool.false_ne_true)]
              split
              · exact .inr rfl
              · exact .inl rfl
           · unfold artHit
             rw [if_neg (by rw [hb1]; exact Bool.false_ne_true), if_pos ⟨rfl, hS⟩]
          unfold hitsN
          rw [hfc]
          rfl
        · rw [if_neg hB, hits_none]
          rw [List.findSome?_eq_none_iff]
          intro b hb
          cases hbp : apoB b with
          | true => exact hnoA b hb hbp
          | false =>
            unfold artHit
            rw [if_neg (by rw [hbp]; exact Bool.false_ne_true), if_neg]
            rintro ⟨e, -⟩
            subst e
            exact hB (artB_iff.2 ⟨hbp, hb⟩)
      · have hsn : spaceN s = (0, 0) := if_neg hS
        rw [hsn]
        rw [hits_none]
        · split <;> rfl
        · rw [List.findSome?_eq_none_iff]
          intro b hb
          cases hbp : apoB b with
          | true => exact hnoA b hb hbp
          | false =>
            unfold artHit
            rw [if_neg (by rw [hbp]; exact Bool.false_ne_true), if_neg]
            rintro ⟨-, e⟩
            exact hS e

/-! The loop over a title. -/
def EndAt (l : List Nat) (e : Int) : Prop := (32 ∉ l ∧ e = -1) ∨ ∃ q k, l = q ++ List.replicate (k + 1) 32 ++ [] ∧ 32 ∉ q ∧ e = ((encL q).length : Int)
theorem EndAt.start : EndAt [] (-1) := .inl ⟨by simp, rfl⟩
theorem EndAt.first {l : List Nat} {e : Int} (h : EndAt l e) (he : e < 0) : EndAt (l ++ [32]) ((encL l).length : Int) := by
  rcases h with ⟨h, -⟩ | ⟨q, k, -, -, h⟩
  · exact .inr ⟨l, 0, by simp, h, rfl⟩
  · omega
theorem EndAt.more {l : List Nat} {e : Int} (h : EndAt l e) (he : 0 ≤ e) : EndAt (l ++ [32]) e := by
  rcases h with ⟨-, h⟩ | ⟨q, k, h1, h2, h⟩
  · omega
  · refine .inr ⟨q, k + 1, ?_, h2, h⟩
    rw [h1, List.append_nil, List.append_nil, List.append_assoc, List.replicate_succ' (n := k + 1)]
theorem EndAt.other {l : List Nat} {e : Int} {c : Nat} (h : EndAt l e) (he : e < 0) (hc : c ≠ 32) : EndAt (l ++ [c]) e := by
  rcases h with ⟨h1, h⟩ | ⟨q, k, -, -, h⟩
  · refine .inl ⟨?_, h⟩
    intro hm
    rcases List.mem_append.1 hm with hm | hm
    · exact h1 hm
    · exact hc (List.mem_singleton.1 hm).symm
  · omega
theorem space_split {q : List Nat} (k : Nat) (u : List UInt8) (hq : ∀ c ∈ q, okC c) (h32 : 32 ∉ q) (hu : u.head? ≠ some 32) :
    wordN (encL q ++ (List.replicate (k + 1) 32 ++ u)) = (encL q).length ∧ spN (encL q ++ (List.replicate (k + 1) 32 ++ u)) (encL q).length = (encL q).length + (k + 1) := by
  constructor
  · rw [word_app _ (by rw [blank_mem hq]; exact h32), word_rep (by omega)]
    rfl
  · unfold spN
    rw [List.drop_left, blank_rep (k + 1) hu]
theorem EndAt.found {s : List UInt8} {l m : List Nat} {c : Nat} {e : Int} (hok : ∀ x ∈ l ++ c :: m, okC x) (hs : s = encL (l ++ c :: m)) (h : EndAt l e) (he : 0 ≤ e) (hc : c ≠ 32) : ∃ E : Nat, e = (E : Int) ∧ spaceN s = (E, (encL l).length) := by
  rcases h with ⟨-, h⟩ | ⟨q, k, h1, h2, h⟩
  · omega
  · rw [List.append_nil] at h1
    refine ⟨_, h, ?_⟩
    have hu0 : ∀ b, (encL (c :: m)).head? = some b → b ≠ 32 := by
      intro b hb e
      subst e
      have hmem : (32 : UInt8) ∈ encC c := by
        have hl := (encC_len c).1
        rw [encL] at hb
        cases hcc : encC c with
        | nil => rw [hcc] at hl; simp at hl
        | cons x t =>
          rw [hcc] at hb
          simp only [List.cons_append, List.head?_cons, Option.some.injEq] at hb
          rw [hb]
          exact List.mem_cons_self
      exact hc ((encC_ascii (b := 32) (by decide) (hok c (List.mem_append_right _ List.mem_cons_self)).1).1 hmem)
    have hs2 : s = encL q ++ (List.replicate (k + 1) 32 ++ encL (c :: m)) := by
      rw [hs, encL_app, h1, encL_app, rep_enc, List.append_assoc]
    have hqo : ∀ x ∈ q, okC x := fun x hx => hok x (by rw [h1]; exact List.mem_append_left _ (List.mem_append_left _ hx))
    obtain ⟨e1, e2⟩ := space_split k (encL (c :: m)) hqo h2 (fun h3 => hu0 _ h3 rfl)
    rw [← hs2] at e1 e2
    have hlen : (encL l).length = (encL q).length + (k + 1) := by rw [h1, encL_app, List.length_append, rep_enc, List.length_replicate]
    have hpos := enc_head_len (m := c :: m) (by simp)
    have hsl : s.length = (encL q).length + ((k + 1) + (encL (c :: m)).length) := by rw [hs2, List.length_append, List.length_append, List.length_replicate]
    unfold spaceN
    rw [e1, e2, if_pos (by omega), hlen]
theorem EndAt.none_ {s : List UInt8} {l : List Nat} {e : Int} (hok : ∀ x ∈ l, okC x) (hs : s = encL l) (h : EndAt l e) : spaceN s = (0, 0) := by
  rcases h with ⟨h1, -⟩ | ⟨q, k, h1, h2, -⟩
  · have h3 : wordN s = s.length := by
      have h4 := word_app (a := encL l) [] (by rw [blank_mem hok]; exact h1)
      rw [List.append_nil, ← hs] at h4
      exact h4
    unfold spaceN
    rw [h3, sp_end (Nat.le_refl _), if_neg (by omega)]
  · rw [List.append_nil] at h1
    have hs2 : s = encL q ++ (List.replicate (k + 1) 32 ++ []) := by
      rw [hs, h1, encL_app, rep_enc, List.append_nil]
    have hqo : ∀ x ∈ q, okC x := fun x hx => hok x (by rw [h1]; exact List.mem_append_left _ hx)
    obtain ⟨e1, e2⟩ := space_split k [] hqo h2 (by simp)
    rw [← hs2] at e1 e2
    have hsl : s.length = (encL q).length + (k + 1) := by rw [hs2, List.length_append, List.append_nil, List.length_replicate]
    unfold spaceN
    rw [e1, e2, if_neg (by omega)]

/-! Nonfiling characters. -/
def sortP (s : List UInt8) (k : Int) : List UInt8 := if cutR s k = [] ∨ 9 < k ∨ s.drop (spN s (cutR s k).length) = [] then s else s.drop (spN s (cutR s k).length)
theorem sortP_eq (s : List UInt8) (k : Int) : sortP s k = sortA s k := by
  cases hd : decR s with
  | none =>
    unfold sortP sortA
    rw [hd, if_pos (.inl (cutR_none hd))]
  | some l =>
    have hS : sortA s k = if k < 1 ∨ 9 < k ∨ (l.length : Int) ≤ k then s else if s.length ≤ spN s (cutR s k).length then s else s.drop (spN s (cutR s k).length) := by unfold sortA; rw [hd]
    rw [hS]
    unfold sortP
    obtain ⟨hs, hok⟩ := enc_dec hd
    by_cases g1 : k < 1
    · rw [if_pos (.inl (cutR_less g1)), if_pos (.inl g1)]
    by_cases g2 : 9 < k
    · rw [if_pos (.inr (.inl g2)), if_pos (.inr (.inl g2))]
    have hcut := cutR_some hd g1
    by_cases g3 : (l.length : Int) ≤ k
    · have h0 : s.drop (spN s (cutR s k).length) = [] := by rw [hcut, List.take_of_length_le (by omega), hs, sp_end (Nat.le_refl _), List.drop_length]
      rw [if_pos (.inr (.inr h0)), if_pos (.inr (.inr g3))]
    have hg : ¬ (k < 1 ∨ 9 < k ∨ (l.length : Int) ≤ k) := by omega
    rw [if_neg hg]
    have hcl : (cutR s k).length ≤ s.length := by
      rw [hcut, ← hs]
      conv => rhs; rw [← List.take_append_drop k.toNat l, encL_app, List.length_append]
      exact Nat.le_add_right _ _
    have hne : cutR s k ≠ [] := by
      intro e
      rw [hcut] at e
      have h1 := enc_head_len (m := l.take k.toNat) (by
        intro e2
        have h3 := congrArg List.length e2
        rw [List.length_take, List.length_nil] at h3
        omega)
      rw [e] at h1
      exact Nat.lt_irrefl _ h1
    by_cases g4 : s.length ≤ spN s (cutR s k).length
    · rw [if_pos (.inr (.inr (List.drop_of_length_le g4))), if_pos g4]
    · rw [if_neg g4, if_neg]
      rintro (e | e | e)
      · exact hne e
      · exact g2 e
      · have h3 := congrArg List.length e
        rw [List.length_drop] at h3
        simp at h3
        omega
theorem blank_trim : ∀ t : List UInt8, Lib.trimLeftB t 32 = t.drop (blankN t)
  | [] => rfl
  | b :: t => by
    by_cases hb : b = 32
    · subst hb
      have ih := blank_trim t
      unfold Lib.trimLeftB at ih ⊢
      rw [blankN, if_pos rfl, List.dropWhile_cons, if_pos (by simp), List.drop_succ_cons]
      exact ih
    · rw [blankN, if_neg hb]
      unfold Lib.trimLeftB
      rw [List.dropWhile_cons, if_neg (by simpa using hb)]
      rfl
theorem trim_left9 (s : List UInt8) (k : Nat) : Lib.trimLeftB (s.drop k) 32 = s.drop (spN s k) := by
  rw [blank_trim, List.drop_drop]
  unfold spN
  rfl
/-- What ends with an apostrophe. -/
theorem suffix_apo (a : List UInt8) : Lib.hasSuffix a [39] = apoB a := by
  unfold Lib.hasSuffix apoB
  cases h : a.getLast? with
  | none =>
    rw [List.getLast?_eq_none_iff.1 h]
    rfl
  | some b =>
    obtain ⟨t, rfl⟩ := List.getLast?_eq_some_iff.1 h
    by_cases hb : b = 39
    · subst hb
      rw [List.isSuffixOf_iff_suffix.2 ⟨t, rfl⟩]
      simp
    · have h1 : [39].isSuffixOf (t ++ [b]) = false := by
        cases h2 : [39].isSuffixOf (t ++ [b]) with
        | false => rfl
        | true =>
          obtain ⟨u, hu⟩ := List.isSuffixOf_iff_suffix.1 h2
          have h3 := (List.append_inj' hu rfl).2
          injection h3 with h3
          exact absurd h3.symm hb
      rw [h1]
      simp [hb]

end Go.Proofs.YtbnchnbblchmnaaGreatDoor

namespace Go.Proofs.YtbnchnbblchmnaaGreatDoor
open Go.RowKit Go.Maps

def heldR (v : Value) : Option (DataW Value × List MemPlace) := some (.held v, [])
def nilH : DataW Value := .held (.slice none 0 0)
theorem arr_block {α : Type} {val : α → Value} {W W' : World} {a n c : Nat} {xs : List α} (h : Arr val W W.heap.size (.slice (some ⟨a, 0, none⟩) n c) xs) (hs : W.heap.size ≤ W'.heap.size) (hk : W'.heap[a]? = W.heap[a]?) : Arr val W' W'.heap.size (.slice (some ⟨a, 0, none⟩) n c) xs := by
  rcases h with ⟨e, _⟩ | ⟨ad, c', e, hc, hb, hcell⟩
  · cases e
  · injection e with e1 e2 e3
    injection e1 with e1
    subst e1
    refine .inr ⟨_, c', by rw [e2, e3], hc, fun h0 => Nat.lt_of_lt_of_le (hb h0) hs, fun i u hu => ?_⟩
    rw [← hcell i u hu, plain_add]
    exact World.cell?_of_block hk
theorem heldR_inv {v u : Value} {ps : List MemPlace} (h : heldR v = some (.held u, ps)) : v = u := by
  unfold heldR at h
  simp at h
  exact h.1
theorem key_lit (s : List UInt8) (hs : s.length ≤ 1000000) : keyOf Tryz.prog 9 (.string (str s)) = some (.string s) := by
  have hkey : keyOf Tryz.prog 9 (.string (str s)) = some (.string (str s).data.toList) := WideMaps.keyOf_string_mk (P := Tryz.prog) Tryz.underlying9 (by rw [str_size]; unfold maxLen; omega)
  have ep : (str s).data.toList = s := by simp [str]
  rw [ep] at hkey
  exact hkey
theorem held_look {D : DataW Value} {b N : Nat} {W : World} (hown : W.ownsMap Tryz.prog 9 heldR b N D) (s : List UInt8) (hs : s.length ≤ 1000000) {u : Value} (hu : D.atKey (.string s) nilH = .held u) :
    (Instr.lookup 161 (.map (some b)) (.string (str s)) false).run Tryz.prog W = .ok u W := by
  obtain ⟨v, ps, hrun, hv⟩ := hown.lookup (string_keyed Tryz.underlying9) Tryz.underlying161 (Tryz.zeroValue25 W) (zd := nilH) (zp := []) rfl (key_lit s hs)
  rw [hu] at hv
  rw [hrun, heldR_inv hv]
theorem insert_perm (x : Lit × DataW Value) : ∀ l : List (Lit × DataW Value), (DataW.insert x l).Perm (x :: l)
  | [] => .refl _
  | y :: r => by
    unfold DataW.insert
    split
    · exact .refl _
    · exact ((insert_perm x r).cons y).trans (.swap x y r)

/-- In W, block b is a map that holds the articles of the languages of L, and nothing else. -/
structure ArtMap (W : World) (b N : Nat) (D : DataW Value) (L : List (List UInt8 × List (List UInt8))) : Prop where
  map : W.ownsMap Tryz.prog 9 heldR b N D
  yes : ∀ p ∈ L, ∃ a n, D.atKey (.string p.1) nilH = .held (.slice (some ⟨a, 0, none⟩) n n) ∧ b < a ∧ a < W.heap.size ∧ Arr sv W W.heap.size (.slice (some ⟨a, 0, none⟩) n n) p.2
  no : ∀ s, (∀ p ∈ L, p.1 ≠ s) → D.atKey (.string s) nilH = nilH
  keys : ∃ es, D = .map es ∧ (es.map Prod.fst).Perm (L.map fun p => Lit.string p.1)
theorem ArtMap.start (w : World) : ArtMap (w.alloc (.map #[] 0)) w.heap.size 0 (.map []) [] :=
  ⟨World.ownsMap_made _ _ _ _, (fun p hp => by cases hp), fun _ _ => rfl, ⟨[], rfl, List.Perm.refl _⟩⟩
theorem ArtMap.put {W : World} {b N : Nat} {D : DataW Value} {L : List (List UInt8 × List (List UInt8))} (h : ArtMap W b N D L) (k : List UInt8) (l : List (List UInt8)) (n : Nat) (cs : Array Value) (hn : l.length = n) (hcs : cs = (l.map sv).toArray)
    (hk : ∀ p ∈ L, p.1 ≠ k) (hN : N < 1000) (hkl : k.length ≤ 1000) :
    ∃ W', (Instr.mapUpdate 161 (.map (some b)) (.string (str k)) (.slice (some ⟨W.heap.size, 0, none⟩) n n)).run Tryz.prog (W.alloc (.cells cs 9)) = .ok () W' ∧ (∃ D', ArtMap W' b (N + 1) D' (L ++ [(k, l)])) ∧ W.grownBy W' (some b) := by
  have hbW := h.map.lt
  have hm1 := h.map.alloc (.cells cs 9)
  have hA := arr_made W 9 l n cs hn hcs
  have hs1 : (W.alloc (.cells cs 9)).heap.size = W.heap.size + 1 := by simp
  rw [hs1] at hA
  obtain ⟨W', hrun, hown, hg⟩ := hm1.update (string_keyed Tryz.underlying9) Tryz.underlying161 (by unfold maxLen; omega) (key_lit k (by omega)) (val := .slice (some ⟨W.heap.size, 0, none⟩) n n) (d := .held (.slice (some ⟨W.heap.size, 0, none⟩) n n)) (ps := []) rfl
  have hM := hm1.isMap
  have hgs := hg.size
  rw [hs1] at hgs
  refine ⟨W', hrun, ⟨_, hown, ?_, ?_, ?_⟩, ?_⟩
  · intro p hp
    rcases List.mem_append.1 hp with hp | hp
    · obtain ⟨a, m, e1, e2, e3, e4⟩ := h.yes p hp
      refine ⟨a, m, ?_, e2, by omega, ?_⟩
      · have hne : Lit.string p.1 ≠ Lit.string k := by
          intro e
          injection e with e
          exact hk p hp e
        rw [atKey_put_other hne]
        exact e1
      · refine arr_block (arr_block e4 (by omega) (Below.heap_alloc W _ a e3)) hg.size (hg.block a (by omega) fun e => ?_)
        injection e with e
        omega
    · obtain rfl := List.mem_singleton.1 hp
      refine ⟨W.heap.size, n, atKey_put_same (k := .string k) hM trivial _ _, hbW, by omega, ?_⟩
      refine arr_block (W := W.alloc (.cells cs 9)) (by rw [hs1]; exact hA) hg.size (hg.block _ (by omega) fun e => ?_)
      injection e with e
      omega
  · intro s hs
    have hne : Lit.string s ≠ Lit.string k := by
      intro e
      injection e with e
      exact hs (k, l) (List.mem_append_right _ (List.mem_singleton.2 rfl)) e.symm
    rw [atKey_put_other hne]
    exact h.no s fun p hp => hs p (List.mem_append_left _ hp)
  · obtain ⟨es, rfl, hp⟩ := h.keys
    refine ⟨_, rfl, ?_⟩
    have hf : (es.filter fun p => !p.1.sameKey (.string k)) = es := by
      refine List.filter_eq_self.2 fun p hpe => ?_
      have h1 := hp.mem_iff.1 (List.mem_map_of_mem (f := Prod.fst) hpe)
      obtain ⟨q, hq, e⟩ := List.mem_map.1 h1
      rw [← e]
      have h2 := hk q hq
      simp [Lit.sameKey, h2]
    rw [hf]
    refine ((insert_perm _ es).map Prod.fst).trans ?_
    rw [List.map_append, List.map_cons]
    exact (hp.cons _).trans (List.perm_append_singleton _ _).symm
  · exact grown_trans (World.grownBy_alloc W _ _) hg
theorem ArtMap.look {W : World} {b N : Nat} {D : DataW Value} (h : ArtMap W b N D (langT.zip artT)) (lang : List UInt8) (hl : lang.length ≤ 1000000) :
    ∃ A n c, (Instr.lookup 161 (.map (some b)) (.string (str lang)) false).run Tryz.prog W = .ok (.slice A n c) W ∧ Arr sv W W.heap.size (.slice A n c) (artsOf lang) := by
  unfold artsOf
  cases hf : (langT.zip artT).find? fun p => p.1 == lang with
  | none =>
    have h1 : D.atKey (.string lang) nilH = nilH := h.no lang fun p hp e => by
      have h2 := List.find?_eq_none.1 hf p hp
      rw [e] at h2
      exact h2 (beq_self_eq_true _)
    exact ⟨_, _, _, held_look h.map lang hl h1, .inl ⟨rfl, rfl⟩⟩
  | some p =>
    have h1 := List.find?_some hf
    simp only [beq_iff_eq] at h1
    obtain ⟨a, n, e1, -, -, e4⟩ := h.yes p (List.mem_of_find?_eq_some hf)
    rw [h1] at e1
    exact ⟨_, _, _, held_look h.map lang hl e1, e4⟩

end Go.Proofs.YtbnchnbblchmnaaGreatDoor
