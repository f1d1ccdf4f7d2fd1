/-
  Articles of titles, as plain mathematics.
  What the document promises of articles, by bytes.
  What the document promises of articles: titles without one, titles with each.
  What the document promises of articles: each article of a language.
-/
import Derived.Test.YtmgofhbdaopapaaGreatDoorPkAH
namespace Go.Proofs.YtmgofhbdaopapaaGreatDoor

/-! Blanks in bytes and in characters. -/
theorem encC_ascii {b : Nat} (hb : b < 128) {c : Nat} (h6 : c < 65536) : UInt8.ofNat b ∈ encC c ↔ c = b := by
  constructor
  · intro h
    by_cases hc : c < 128
    · rw [enc_one hc, List.mem_singleton] at h
      have h2 := congrArg UInt8.toNat h
      rw [UInt8.toNat_ofNat', UInt8.toNat_ofNat'] at h2
      omega
    · exfalso
      have hbig : ∀ x ∈ encC c, 128 ≤ x.toNat := by
        intro x hx
        unfold encC at hx
        rw [if_neg hc] at hx
        split at hx
        · simp only [List.mem_cons, List.not_mem_nil, or_false] at hx
          rcases hx with rfl | rfl <;> rw [UInt8.toNat_ofNat'] <;> omega
        · simp only [List.mem_cons, List.not_mem_nil, or_false] at hx
          rcases hx with rfl | rfl | rfl <;> rw [UInt8.toNat_ofNat'] <;> omega
      have h3 := hbig _ h
      rw [UInt8.toNat_ofNat'] at h3
      omega
  · rintro rfl
    rw [enc_one hb]
    exact List.mem_singleton.2 rfl
theorem mem_encL {b : UInt8} : ∀ {l : List Nat}, b ∈ encL l ↔ ∃ c ∈ l, b ∈ encC c
  | [] => by simp [encL]
  | c :: l => by
    rw [encL, List.mem_append, mem_encL]
    simp
theorem blank_mem {l : List Nat} (h : ∀ c ∈ l, okC c) : (32 : UInt8) ∈ encL l ↔ 32 ∈ l := by
  rw [mem_encL]
  constructor
  · rintro ⟨c, hc, hb⟩
    have := (encC_ascii (b := 32) (by decide) (h c hc).1).1 hb
    exact this ▸ hc
  · intro hc
    exact ⟨32, hc, (encC_ascii (b := 32) (by decide) (by decide)).2 rfl⟩
def wordN : List UInt8 → Nat
  | [] => 0
  | b :: t => if b = 32 then 0 else wordN t + 1
def blankN : List UInt8 → Nat
  | [] => 0
  | b :: t => if b = 32 then blankN t + 1 else 0
def spN (s : List UInt8) (k : Nat) : Nat := k + blankN (s.drop k)
theorem word_app {a : List UInt8} (t : List UInt8) (h : 32 ∉ a) : wordN (a ++ t) = a.length + wordN t := by
  induction a with
  | nil => simp
  | cons b a ih =>
    have h1 : b ≠ 32 := fun e => h (e ▸ List.mem_cons_self)
    rw [List.cons_append, wordN, if_neg h1, ih fun hm => h (List.mem_cons_of_mem _ hm), List.length_cons]
    omega
theorem word_split : ∀ s : List UInt8, ∃ t, s = s.take (wordN s) ++ t ∧ (t = [] ∨ ∃ u, t = 32 :: u) ∧ 32 ∉ s.take (wordN s) ∧ wordN s ≤ s.length
  | [] => ⟨[], rfl, .inl rfl, by simp [wordN], by simp [wordN]⟩
  | b :: s => by
    by_cases hb : b = 32
    · subst hb
      refine ⟨32 :: s, ?_, .inr ⟨s, rfl⟩, ?_, ?_⟩ <;> simp [wordN]
    · obtain ⟨t, h1, h2, h3, h4⟩ := word_split s
      refine ⟨t, ?_, h2, ?_, ?_⟩
      · rw [wordN, if_neg hb, List.take_succ_cons, List.cons_append, ← h1]
      · rw [wordN, if_neg hb, List.take_succ_cons]
        intro hm
        rcases List.mem_cons.1 hm with e | hm
        · exact hb e.symm
        · exact h3 hm
      · rw [wordN, if_neg hb, List.length_cons]; omega
theorem blank_split : ∀ t : List UInt8, ∃ u, t = List.replicate (blankN t) 32 ++ u ∧ u.head? ≠ some 32 ∧ blankN t + u.length = t.length
  | [] => ⟨[], rfl, by simp, rfl⟩
  | b :: t => by
    by_cases hb : b = 32
    · subst hb
      obtain ⟨u, h1, h2, h3⟩ := blank_split t
      refine ⟨u, ?_, h2, ?_⟩
      · rw [blankN, if_pos rfl, List.replicate_succ, List.cons_append, ← h1]
      · rw [blankN, if_pos rfl, List.length_cons]; omega
    · refine ⟨b :: t, ?_, ?_, ?_⟩
      · rw [blankN, if_neg hb]; rfl
      · simpa using hb
      · rw [blankN, if_neg hb]; simp
theorem blank_rep (k : Nat) {u : List UInt8} (h : u.head? ≠ some 32) : blankN (List.replicate k 32 ++ u) = k := by
  induction k with
  | zero =>
    cases u with
    | nil => rfl
    | cons b u =>
      have hb : b ≠ 32 := fun e => h (by rw [e]; rfl)
      show blankN (b :: u) = 0
      rw [blankN, if_neg hb]
  | succ k ih => rw [List.replicate_succ, List.cons_append, blankN, if_pos rfl, ih]
theorem rep_enc (k : Nat) : encL (List.replicate k 32) = List.replicate k (32 : UInt8) := by
  induction k with
  | zero => rfl
  | succ k ih => rw [List.replicate_succ, encL, ih]; rfl
theorem enc_split {p : List Nat} {t : List UInt8} {l : List Nat} (hp : ∀ c ∈ p, okC c) (h : decR (encL p ++ t) = some l) : ∃ m, l = p ++ m ∧ decR t = some m := by
  rw [dec_enc_app p hp t] at h
  obtain ⟨m, h1, h2⟩ := Option.map_eq_some_iff.1 h
  exact ⟨m, h2.symm, h1⟩
theorem ok_32 : okC 32 := by
  refine ⟨by decide, ?_⟩
  decide +kernel

theorem word_enc : ∀ (l : List Nat), (∀ c ∈ l, okC c) → ∃ q r, l = q ++ r ∧ 32 ∉ q ∧ (encL l).take (wordN (encL l)) = encL q
  | [], _ => ⟨[], [], rfl, by simp, rfl⟩
  | c :: l, h => by
    by_cases hc : c = 32
    · subst hc
      refine ⟨[], 32 :: l, rfl, by simp, ?_⟩
      show (32 :: encL l).take (wordN (32 :: encL l)) = []
      rw [wordN, if_pos rfl]
      rfl
    · obtain ⟨q, r, h1, h2, h3⟩ := word_enc l fun x hx => h x (List.mem_cons_of_mem _ hx)
      have hb : (32 : UInt8) ∉ encC c := fun hm => hc ((encC_ascii (b := 32) (by decide) (h c List.mem_cons_self).1).1 hm)
      refine ⟨c :: q, r, by rw [h1]; rfl, ?_, ?_⟩
      · intro hm
        rcases List.mem_cons.1 hm with e | hm
        · exact hc e.symm
        · exact h2 hm
      · rw [encL, word_app _ hb, List.take_append, List.take_of_length_le (by omega), Nat.add_sub_cancel_left, h3, encL]

/-! The tables. -/
def langT : List (List UInt8) := [[100, 97, 110], [100, 117, 116], [101, 110, 103], [102, 114, 101], [103, 101, 114], [103, 114, 101], [105, 116, 97], [112, 111, 114], [115, 112, 97], [115, 119, 101]]
def artT : List (List (List UInt8)) :=
  [[[101, 110], [101, 116], [100, 101, 110], [100, 101, 116]],
   [[100, 101], [104, 101, 116], [101, 101, 110], [39, 116]],
   [[116, 104, 101], [97], [97, 110]],
   [[108, 101], [108, 97], [108, 101, 115], [108, 39], [117, 110], [117, 110, 101], [100, 101, 115]],
   [[100, 101, 114], [100, 105, 101], [100, 97, 115], [101, 105, 110], [101, 105, 110, 101]],
   [[206, 191], [206, 183], [207, 132, 206, 191], [206, 191, 206, 185], [207, 132, 206, 177]],
   [[105, 108], [108, 111], [108, 97], [105], [103, 108, 105], [108, 101], [108, 39], [117, 110], [117, 110, 111], [117, 110, 97]],
   [[111], [97], [111, 115], [97, 115], [117, 109], [117, 109, 97]],
   [[101, 108], [108, 97], [108, 111, 115], [108, 97, 115], [117, 110], [117, 110, 97]],
   [[101, 110], [101, 116, 116], [100, 101, 110], [100, 101, 116]]]
def artsOf (lang : List UInt8) : List (List UInt8) := ((langT.zip artT).find? fun p => p.1 == lang).elim [] fun p => p.2
def apoB (a : List UInt8) : Bool := a.getLast? == some 39
def artHit (s : List UInt8) (word two : Nat) (a : List UInt8) : Option (Nat × Nat) :=
  if apoB a = true then (if nFold (s.take two) = a ∧ two < s.length ∧ s[two]? ≠ some 32 then some (two, two) else none)
  else (if nFold (s.take word) = a ∧ spN s word < s.length then some (word, spN s word) else none)
def hitsN (s : List UInt8) (l : List (List UInt8)) : Nat × Nat := (l.findSome? (artHit s (wordN s) (cutR s 2).length)).getD (0, 0)
def beginN (lang s : List UInt8) : Nat × Nat := if (decR s).isSome = true then hitsN s (artsOf lang) else (0, 0)
def skipN (lang s : List UInt8) : Nat := (beginN lang s).2
def stripN (lang s : List UInt8) : List UInt8 := s.drop (skipN lang s)
def invN (lang s : List UInt8) : List UInt8 := if (beginN lang s).2 = 0 then s else s.drop (beginN lang s).2 ++ [44, 32] ++ s.take (beginN lang s).1
def sortA (s : List UInt8) (k : Int) : List UInt8 :=
  match decR s with
  | none => s
  | some l => if k < 1 ∨ 9 < k ∨ (l.length : Int) ≤ k then s else if s.length ≤ spN s (cutR s k).length then s else s.drop (spN s (cutR s k).length)
theorem hit_some {s : List UInt8} {l : List (List UInt8)} (h : (hitsN s l).2 ≠ 0) : ∃ a ∈ l, artHit s (wordN s) (cutR s 2).length a = some (hitsN s l) := by
  unfold hitsN at h ⊢
  cases hf : l.findSome? (artHit s (wordN s) (cutR s 2).length) with
  | none => rw [hf] at h; exact absurd rfl h
  | some p =>
    obtain ⟨a, ha, h1⟩ := List.exists_of_findSome?_eq_some hf
    exact ⟨a, ha, h1⟩

/-- Where a title has an article: what stands in front of the rest. -/
theorem skip_split {lang s : List UInt8} (h : skipN lang s ≠ 0) :
    ∃ (p m : List Nat) (a : List UInt8), decR s = some (p ++ m) ∧ s = encL p ++ encL m ∧ (∀ c ∈ p, okC c) ∧ (encL p).length = skipN lang s ∧ p ≠ [] ∧ m ≠ [] ∧ (encL m).head? ≠ some 32 ∧ a ∈ artsOf lang ∧
      ((apoB a = true ∧ nFold (encL p) = a ∧ (beginN lang s).1 = skipN lang s) ∨ ∃ q k, p = q ++ List.replicate k 32 ∧ 0 < k ∧ nFold (encL q) = a ∧ 32 ∉ q ∧ (beginN lang s).1 = (encL q).length) := by
  unfold skipN beginN at h ⊢
  cases hd : (decR s).isSome with
  | false => rw [hd] at h; exact absurd rfl h
  | true =>
    rw [hd, if_pos rfl] at h
    simp only [if_true]
    obtain ⟨l, hl⟩ := Option.isSome_iff_exists.1 hd
    obtain ⟨hs, hok⟩ := enc_dec hl
    obtain ⟨a, ha, hit⟩ := hit_some h
    obtain ⟨N, hN⟩ : ∃ N, hitsN s (artsOf lang) = N := ⟨_, rfl⟩
    rw [hN] at h hit ⊢
    unfold artHit at hit
    by_cases hap : apoB a = true
    · rw [if_pos hap] at hit
      split at hit
      · rename_i hc
        injection hit with hit
        subst hit
        obtain ⟨h1, h2, h3⟩ := hc
        simp only at h
        have hcut : cutR s 2 = encL (l.take 2) := cutR_some hl (by decide)
        have hsp : s = encL (l.take 2) ++ encL (l.drop 2) := by rw [← encL_app, List.take_append_drop, hs]
        rw [hcut] at h h1 h2 h3 ⊢
        have htk : s.take (encL (l.take 2)).length = encL (l.take 2) := by
          conv => lhs; rw [hsp]
          exact List.take_left
        refine ⟨l.take 2, l.drop 2, a, ?_, hsp, fun c hc => hok c (List.mem_of_mem_take hc), rfl, ?_, ?_, ?_, ha, .inl ⟨hap, by rw [← htk]; exact h1, rfl⟩⟩
        · rw [hl, List.take_append_drop]
        · intro e; rw [e] at h; exact h rfl
        · intro e
          rw [e] at hsp
          rw [hsp] at h2
          simp [encL] at h2
        · intro e
          refine h3 ?_
          rw [hsp, List.getElem?_append_right (Nat.le_refl _), Nat.sub_self, ← List.head?_eq_getElem?]
          exact e
      · cases hit
    · rw [if_neg hap] at hit
      split at hit
      · rename_i hc
        injection hit with hit
        subst hit
        obtain ⟨h1, h2⟩ := hc
        simp only at h ⊢
        obtain ⟨t, t1, t2, t3, t4⟩ := word_split s
        obtain ⟨u, u1, u2, u3⟩ := blank_split t
        have hdt : s.drop (wordN s) = t := List.append_cancel_left ((List.take_append_drop (wordN s) s).trans t1)
        obtain ⟨q, r, q1, q2, q3⟩ := word_enc l hok
        rw [hs] at q3
        have hqo : ∀ c ∈ q, okC c := fun c hc => hok c (by rw [q1]; exact List.mem_append_left _ hc)
        have hpo : ∀ c ∈ q ++ List.replicate (blankN t) 32, okC c := fun c hc => by
          rcases List.mem_append.1 hc with hc | hc
          · exact hqo c hc
          · rw [(List.mem_replicate.1 hc).2]; exact ok_32
        have hse : s = encL (q ++ List.replicate (blankN t) 32) ++ u := by
          rw [encL_app, rep_enc, List.append_assoc, ← u1, ← q3]
          exact t1
        have hl2 := hl
        rw [hse] at hl2
        obtain ⟨m, m1, m2⟩ := enc_split hpo hl2
        obtain ⟨m3, m4⟩ := enc_dec m2
        have hW : (encL q).length = wordN s := by rw [← q3, List.length_take]; omega
        have hlen : (encL (q ++ List.replicate (blankN t) 32)).length = spN s (wordN s) := by
          rw [encL_app, List.length_append, hW, rep_enc, List.length_replicate]
          unfold spN
          rw [hdt]
        refine ⟨q ++ List.replicate (blankN t) 32, m, a, by rw [hl, m1], by rw [m3]; exact hse, hpo, hlen, ?_, ?_, by rw [m3]; exact u2, ha, .inr ⟨q, blankN t, rfl, ?_, by rw [← q3]; exact h1, q2, hW.symm⟩⟩
        · intro e
          rw [e] at hlen
          exact h hlen.symm
        · intro e
          rw [e] at m3
          rw [← hlen, hse, ← m3] at h2
          simp [encL] at h2
        · rcases t2 with e | ⟨v, e⟩
          · subst e
            rw [List.append_nil] at t1
            unfold spN at h2
            rw [hdt] at h2
            have h9 := congrArg List.length t1
            rw [List.length_take] at h9
            have h10 : blankN [] = 0 := rfl
            omega
          · rw [e, blankN, if_pos rfl]; omega
      · cases hit

end Go.Proofs.YtmgofhbdaopapaaGreatDoor

namespace Go.Proofs.YtmgofhbdaopapaaGreatDoor

theorem enc_head_len {m : List Nat} (h : m ≠ []) : 0 < (encL m).length := by
  cases m with
  | nil => exact absurd rfl h
  | cons c m =>
    have := (encC_len c).1
    rw [encL, List.length_append]
    omega
theorem blank_none {t : List UInt8} (h : t.head? ≠ some 32) : blankN t = 0 := by
  have := blank_rep 0 h
  simpa using this
theorem art_sort {lang s : List UInt8} (h : skipN lang s ≠ 0) (h9 : countR (s.take (skipN lang s)) ≤ 9) : sortA s (countR (s.take (skipN lang s)) : Int) = stripN lang s := by
  obtain ⟨p, m, a, h1, h2, h3, h4, h5, h6, h7, -⟩ := skip_split h
  unfold stripN
  rw [← h4] at h9 ⊢
  have htk : s.take (encL p).length = encL p := by
    conv => lhs; rw [h2]
    exact List.take_left
  have hdp : s.drop (encL p).length = encL m := by
    conv => lhs; rw [h2]
    exact List.drop_left
  have hct : countR (s.take (encL p).length) = p.length := by rw [htk, countR_some (dec_enc p h3)]
  rw [hct] at h9 ⊢
  have hp := List.length_pos_iff.2 h5
  have hm := List.length_pos_iff.2 h6
  have hcut : cutR s (p.length : Int) = encL p := by
    rw [cutR_some h1 (by omega)]
    simp
  have hsp : spN s (encL p).length = (encL p).length := by unfold spN; rw [hdp, blank_none h7]; rfl
  have hlen : (encL p).length < s.length := by
    rw [h2, List.length_append]
    have := enc_head_len h6
    omega
  unfold sortA
  rw [h1]
  simp only
  rw [if_neg (by rw [List.length_append]; omega), hcut, hsp, if_neg (by omega)]

/-- A string without the blanks at its end. -/
def trimB (s : List UInt8) : List UInt8 := (s.reverse.dropWhile (· == 32)).reverse
theorem trim_same {s : List UInt8} (h : s.getLast? ≠ some 32) : trimB s = s := by
  unfold trimB
  rw [← List.head?_reverse] at h
  cases hr : s.reverse with
  | nil => rw [List.reverse_eq_nil_iff.1 hr]; rfl
  | cons b t =>
    rw [hr] at h
    have hb : (b == 32) = false := by
      simp only [List.head?_cons, ne_eq, Option.some.injEq] at h
      simpa using h
    rw [List.dropWhile_cons, hb]
    simp only [Bool.false_eq_true, if_false]
    rw [← hr, List.reverse_reverse]
theorem trim_rep (s : List UInt8) (k : Nat) : trimB (s ++ List.replicate k 32) = trimB s := by
  unfold trimB
  rw [List.reverse_append, List.reverse_replicate]
  congr 1
  induction k with
  | zero => rfl
  | succ k ih => rw [List.replicate_succ, List.cons_append, List.dropWhile_cons]; simp only [beq_self_eq_true, if_true]; exact ih
theorem last_enc {p : List Nat} (hp : ∀ c ∈ p, okC c) (h : (encL p).getLast? = some 32) : ∃ q, p = q ++ [32] := by
  rcases List.eq_nil_or_concat p with e | ⟨q, c, e⟩
  · subst e; simp [encL] at h
  · rw [List.concat_eq_append] at e
    subst e
    rw [encL_app] at h
    have h1 : encL [c] = encC c := by simp [encL]
    rw [h1, List.getLast?_append] at h
    cases hx : (encC c).getLast? with
    | none => exact absurd (List.getLast?_eq_none_iff.1 hx) (encC_ne c)
    | some x =>
      rw [hx] at h
      have h2 : x = 32 := by simpa using h
      have hm := List.mem_of_getLast? hx
      rw [h2] at hm
      have hc := (encC_ascii (b := 32) (by decide) (hp c (by simp)).1).1 hm
      exact ⟨q, by rw [hc]⟩
theorem fold_enc {p : List Nat} (hp : ∀ c ∈ p, okC c) : nFold (encL p) = encL (foldL (dcF p)) := by
  unfold nFold nFL
  rw [nL_enc hp]
theorem fold_last (q : List Nat) : foldL (dcF (q ++ [32])) = foldL (dcF q) ++ [32] := by
  have hb := blank_facts
  rw [dcF_join q [32] (fun c hc => by simp at hc; subst hc; exact hb.2.2.1), dcF_one, hb.2.1]
  unfold foldL
  rw [List.flatMap_append]
  simp [hb.2.2.2.1]
theorem arts_last : ∀ {lang a : List UInt8}, a ∈ artsOf lang → a.getLast? ≠ some 32 := by
  intro lang a ha
  have hall : (artT.all fun l => l.all fun a => !(a.getLast? == some 32)) = true := by decide +kernel
  unfold artsOf at ha
  cases hf : (langT.zip artT).find? fun p => p.1 == lang with
  | none => rw [hf] at ha; cases ha
  | some p =>
    rw [hf] at ha
    have hp := (List.of_mem_zip (List.mem_of_find?_eq_some hf)).2
    have h1 := List.all_eq_true.1 (List.all_eq_true.1 hall _ hp) a ha
    intro e
    rw [e] at h1
    cases h1
theorem art_rest {lang s : List UInt8} (h : skipN lang s ≠ 0) : skipN lang s < s.length ∧ s[skipN lang s]? ≠ some 32 ∧ nFold (trimB (s.take (skipN lang s))) ∈ artsOf lang ∧ ∃ t, invN lang s = s.drop (skipN lang s) ++ [44, 32] ++ t := by
  obtain ⟨p, m, a, h1, h2, h3, h4, h5, h6, h7, h8, hcase⟩ := skip_split h
  have htk : s.take (encL p).length = encL p := by
    conv => lhs; rw [h2]
    exact List.take_left
  have hinv : ∃ t, invN lang s = s.drop (skipN lang s) ++ [44, 32] ++ t := ⟨s.take (beginN lang s).1, by have h' : ¬ (beginN lang s).2 = 0 := h; unfold invN; rw [if_neg h']; rfl⟩
  rw [← h4] at hinv ⊢
  refine ⟨?_, ?_, ?_, hinv⟩
  · rw [h2, List.length_append]
    have := enc_head_len h6
    omega
  · intro e
    refine h7 ?_
    rw [h2, List.getElem?_append_right (Nat.le_refl _), Nat.sub_self, ← List.head?_eq_getElem?] at e
    exact e
  · rw [htk]
    rcases hcase with ⟨_, g2, _⟩ | ⟨q, k, e, hk, g2, g3, _⟩
    · have hl : (encL p).getLast? ≠ some 32 := fun e => by
        obtain ⟨q, rfl⟩ := last_enc h3 e
        rw [fold_enc h3, fold_last, encL_app] at g2
        refine arts_last h8 ?_
        rw [← g2]
        simp [encL, encC]
      rw [trim_same hl, g2]
      exact h8
    · subst e
      have hq : ∀ c ∈ q, okC c := fun c hc => h3 c (List.mem_append_left _ hc)
      rw [encL_app, rep_enc, trim_rep, trim_same, g2]
      · exact h8
      · intro e
        obtain ⟨q', rfl⟩ := last_enc hq e
        exact g3 (by simp)

end Go.Proofs.YtmgofhbdaopapaaGreatDoor

namespace Go.Proofs.YtmgofhbdaopapaaGreatDoor

/-- A character whose folded form holds an apostrophe is one, or the wide one. -/
def apoC (c : Nat) : Bool := !(((wholeR c).flatMap low1).contains 39) || Nat.beq c 39 || Nat.beq c 65287
theorem chars_apo : (charL.all apoC) = true := by kernel_rfl
theorem apo_char {c : Nat} (h : hasN c = true) (hm : 39 ∈ (wholeR c).flatMap low1) : c = 39 ∨ c = 65287 := by
  have h1 := List.all_eq_true.1 chars_apo c ((char_mem c).2 h)
  unfold apoC at h1
  rw [List.contains_iff_mem.2 hm] at h1
  simpa using h1
theorem fold_mem39 {p : List Nat} (hp : ∀ c ∈ p, hasN c = true) (h : 39 ∈ foldL (dcF p)) : ∃ c ∈ p, c = 39 ∨ c = 65287 := by
  unfold foldL at h
  obtain ⟨y, hy, h1⟩ := List.mem_flatMap.1 h
  obtain ⟨c, hc, h2⟩ := mem_dcF.1 hy
  exact ⟨c, hc, apo_char (hp c hc) (List.mem_flatMap.2 ⟨y, h2, h1⟩)⟩
theorem fold_ok {p : List Nat} (hp : ∀ c ∈ p, okC c) : ∀ y ∈ foldL (dcF p), y < 65536 := by
  have h := nFL_dec (encL p)
  unfold nFL at h
  rw [nL_enc hp] at h
  exact fun y hy => (ok_of_has (h.1 y hy)).1
theorem apo_mem {a : List UInt8} (h : apoB a = true) : (39 : UInt8) ∈ a := by
  unfold apoB at h
  exact List.mem_of_getLast? (by simpa using h)
theorem art_others {lang s : List UInt8} (h : artsOf lang = [] ∨ (32 ∉ s ∧ 39 ∉ s ∧ ¬ ∃ a b, s = a ++ [239, 188, 135] ++ b)) : skipN lang s = 0 ∧ stripN lang s = s ∧ invN lang s = s := by
  have h0 : skipN lang s = 0 := by
    by_cases hz : skipN lang s = 0
    · exact hz
    · exfalso
      obtain ⟨p, m, a, h1, h2, h3, h4, h5, h6, h7, h8, hcase⟩ := skip_split hz
      rcases h with h | ⟨n1, n2, n3⟩
      · rw [h] at h8; cases h8
      · rcases hcase with ⟨g1, g2, _⟩ | ⟨q, k, e, hk, _⟩
        · have hm := apo_mem g1
          rw [← g2, fold_enc h3, mem_encL] at hm
          obtain ⟨y, hy, h39⟩ := hm
          have hyy := (encC_ascii (b := 39) (by decide) (fold_ok h3 y hy)).1 h39
          rw [hyy] at hy
          have hhas : ∀ c ∈ p, hasN c = true := fun c hc => by
            have h9 := h3 c hc
            have hk9 := h9.2
            rw [← hasN_eq]
            show (kindR (c : Int) != 0) = true
            simpa using hk9
          obtain ⟨c, hc, hcc⟩ := fold_mem39 hhas hy
          rcases hcc with rfl | rfl
          · refine n2 ?_
            rw [h2]
            exact List.mem_append_left _ (mem_encL.2 ⟨39, hc, (encC_ascii (b := 39) (by decide) (by decide)).2 rfl⟩)
          · refine n3 ?_
            obtain ⟨p1, p2, rfl⟩ := List.append_of_mem hc
            refine ⟨encL p1, encL p2 ++ encL m, ?_⟩
            rw [h2, encL_app, encL, show encC 65287 = [239, 188, 135] by decide]
            simp
        · refine n1 ?_
          subst e
          rw [h2, encL_app, rep_enc]
          refine List.mem_append_left _ (List.mem_append_right _ ?_)
          exact List.mem_replicate.2 ⟨by omega, rfl⟩
  refine ⟨h0, ?_, ?_⟩
  · unfold stripN; rw [h0]; rfl
  · have h0' : (beginN lang s).2 = 0 := h0
    unfold invN
    rw [if_pos h0']

end Go.Proofs.YtmgofhbdaopapaaGreatDoor

namespace Go.Proofs.YtmgofhbdaopapaaGreatDoor

def upB (b : UInt8) : UInt8 := if 97 ≤ b ∧ b ≤ 122 then b - 32 else b
/-- An article with its first letter a capital one. -/
def capB : List UInt8 → List UInt8
  | b :: t => if b < 128 then upB b :: t else b :: t
  | [] => []
theorem find_const {α β : Type} {f : α → Option β} {v : β} : ∀ {l : List α}, (∀ b ∈ l, f b = none ∨ f b = some v) → ∀ {a : α}, a ∈ l → f a = some v → l.findSome? f = some v
  | [], _, _, ha, _ => by cases ha
  | b :: l, h, a, ha, hv => by
    rw [List.findSome?_cons]
    rcases h b List.mem_cons_self with e | e
    · rw [e]
      rcases List.mem_cons.1 ha with rfl | ha
      · rw [hv] at e; cases e
      · exact find_const (fun c hc => h c (List.mem_cons_of_mem _ hc)) ha hv
    · rw [e]
/-- What the kernel finds of each article, of either writing. -/
def goodArt (all : List (List UInt8)) (a a' : List UInt8) : Bool :=
  (decR a').isSome && !(a'.contains 32) && (nFold a' == a) && (apoB a' == apoB a) &&
  (if apoB a = true then (a' == [108, 39] || a' == [76, 39]) && (all.all fun b => apoB b || !(b[1]? == some 39))
   else all.all fun b => !(apoB b) || !(nFold (cutR (a' ++ [32]) 2) == b) && Nat.ble 2 (nL (a' ++ [32])).length)
def goodAll (p : List UInt8 × List (List UInt8)) : Bool := (artsOf p.1 == p.2) && p.2.all fun a => goodArt p.2 a a && goodArt p.2 a (capB a)
theorem all_arts : ((langT.zip artT).all goodAll) = true := by decide +kernel
structure GoodArt (all : List (List UInt8)) (a a' : List UInt8) : Prop where
  dec : (decR a').isSome = true
  nsp : 32 ∉ a'
  fold : nFold a' = a
  apo : apoB a' = apoB a
  one : apoB a = true → (a' = [108, 39] ∨ a' = [76, 39]) ∧ ∀ b ∈ all, apoB b = true ∨ b[1]? ≠ some 39
  two : apoB a = false → ∀ b ∈ all, apoB b = true → nFold (cutR (a' ++ [32]) 2) ≠ b ∧ 2 ≤ (nL (a' ++ [32])).length
theorem good_art {lang : List UInt8} {all : List (List UInt8)} (hm : (lang, all) ∈ langT.zip artT) {a : List UInt8} (ha : a ∈ all) {a' : List UInt8} (hc : a' = a ∨ a' = capB a) : artsOf lang = all ∧ GoodArt all a a' := by
  have h1 := List.all_eq_true.1 all_arts _ hm
  unfold goodAll at h1
  simp only [Bool.and_eq_true, List.all_eq_true, beq_iff_eq] at h1
  refine ⟨h1.1, ?_⟩
  have h2 := h1.2 a ha
  have h3 : goodArt all a a' = true := by
    rcases hc with rfl | rfl
    · exact h2.1
    · exact h2.2
  unfold goodArt at h3
  simp only [Bool.and_eq_true, beq_iff_eq, Bool.not_eq_true'] at h3
  obtain ⟨⟨⟨⟨g1, g2⟩, g3⟩, g4⟩, g5⟩ := h3
  refine ⟨g1, fun hm => ?_, g3, g4, fun e => ?_, fun e b hb hbp => ?_⟩
  · rw [List.contains_iff_mem.2 hm] at g2; cases g2
  · rw [if_pos e, Bool.and_eq_true, List.all_eq_true] at g5
    refine ⟨by simpa using g5.1, fun b hb => ?_⟩
    have := g5.2 b hb
    simpa using this
  · rw [if_neg (by rw [e]; exact Bool.false_ne_true), List.all_eq_true] at g5
    have := g5 b hb
    rw [hbp] at this
    simp at this
    exact this
theorem word_rep {k : Nat} (hk : 0 < k) (u : List UInt8) : wordN (List.replicate k 32 ++ u) = 0 := by
  cases k with
  | zero => omega
  | succ k => rw [List.replicate_succ, List.cons_append, wordN, if_pos rfl]
theorem cut_two {p : List Nat} {t : List UInt8} {l : List Nat} (hp : ∀ c ∈ p, okC c) (h : decR (encL p ++ t) = some l) (h2 : 2 ≤ p.length) : cutR (encL p ++ t) 2 = encL (p.take 2) := by
  obtain ⟨m, rfl, _⟩ := enc_split hp h
  rw [cutR_some h (by decide)]
  congr 1
  show (p ++ m).take 2 = p.take 2
  rw [List.take_append_of_le_length h2]
theorem take_cut9 {p : List Nat} {t : List UInt8} : (encL p ++ t).take (encL (p.take 2)).length = encL (p.take 2) := by
  conv => lhs; rw [← List.take_append_drop 2 p, encL_app, List.append_assoc]
  have h : (p.take 2 ++ p.drop 2).take 2 = p.take 2 := by rw [List.take_append_drop]
  rw [h]
  exact List.take_left

theorem dc_apo {c : Nat} (hw : wholeR c = [c]) (q : List Nat) : ∃ z, dcF (c :: 39 :: q) = c :: 39 :: z := by
  have h39 : clM 39 = 0 ∧ wholeR 39 = [39] := by decide +kernel
  have h1 : ∃ z, dcF (39 :: q) = 39 :: z := by
    refine ⟨(sortB clM [] (q.flatMap wholeR)).reverse, ?_⟩
    unfold dcF
    rw [List.flatMap_cons, h39.2]
    exact sort_first h39.1 _
  obtain ⟨z, hz⟩ := h1
  have e : c :: 39 :: q = [c] ++ 39 :: q := rfl
  refine ⟨z, ?_⟩
  rw [e, dcF_join [c] (39 :: q) (fun d hd => by simp at hd; subst hd; exact h39.1), dcF_one, hw, hz]
  rfl
theorem fold_apo {c : Nat} (hc : c = 108 ∨ c = 76) {q : List Nat} (hq : ∀ x ∈ q, okC x) : (nFold (encL (c :: 39 :: q)))[1]? = some 39 := by
  have hf : (wholeR 108 = [108] ∧ low1 108 = [108]) ∧ (wholeR 76 = [76] ∧ low1 76 = [108]) ∧ low1 39 = [39] ∧ okC 108 ∧ okC 76 ∧ okC 39 := by
    refine ⟨by decide +kernel, by decide +kernel, by decide +kernel, ⟨by decide, by decide +kernel⟩, ⟨by decide, by decide +kernel⟩, ⟨by decide, by decide +kernel⟩⟩
  have hw : wholeR c = [c] ∧ low1 c = [108] ∧ okC c := by
    rcases hc with rfl | rfl
    · exact ⟨hf.1.1, hf.1.2, hf.2.2.2.1⟩
    · exact ⟨hf.2.1.1, hf.2.1.2, hf.2.2.2.2.1⟩
  have hok : ∀ x ∈ c :: 39 :: q, okC x := fun x hx => by
    rcases List.mem_cons.1 hx with rfl | hx
    · exact hw.2.2
    · rcases List.mem_cons.1 hx with rfl | hx
      · exact hf.2.2.2.2.2
      · exact hq x hx
  obtain ⟨z, hz⟩ := dc_apo hw.1 q
  rw [fold_enc hok, hz]
  unfold foldL
  rw [List.flatMap_cons, List.flatMap_cons, hw.2.1, hf.2.2.1]
  rfl
theorem dec_two {a t : List UInt8} (h1 : (decR a).isSome = true) (h2 : (decR t).isSome = true) : (decR (a ++ t)).isSome = true := by
  obtain ⟨l, hl⟩ := Option.isSome_iff_exists.1 h1
  obtain ⟨m, hm⟩ := Option.isSome_iff_exists.1 h2
  rw [dec_app hl, hm]
  rfl
theorem dec_rep (k : Nat) : (decR (List.replicate k 32)).isSome = true := by
  rw [← rep_enc, dec_enc _ fun c hc => by rw [(List.mem_replicate.1 hc).2]; exact ok_32]
  rfl
theorem begin_of {lang s : List UInt8} {all : List (List UInt8)} {v : Nat × Nat} (hl : artsOf lang = all) (hd : (decR s).isSome = true) (hv : all.findSome? (artHit s (wordN s) (cutR s 2).length) = some v) (h0 : v.2 ≠ 0) :
    stripN lang s = s.drop v.2 ∧ invN lang s = s.drop v.2 ++ [44, 32] ++ s.take v.1 := by
  have hb : beginN lang s = v := by
    unfold beginN hitsN
    rw [if_pos hd, hl, hv]
    rfl
  unfold stripN skipN invN
  rw [hb, if_neg h0]
  exact ⟨rfl, rfl⟩
theorem art_each1 {lang : List UInt8} {all : List (List UInt8)} (hm : (lang, all) ∈ langT.zip artT) {a : List UInt8} (ha : a ∈ all) {a' : List UInt8} (hc : a' = a ∨ a' = capB a) (hap : apoB a = false) {k : Nat} (hk : 0 < k) {r : List UInt8} (hr : (decR r).isSome = true) (h0 : r ≠ []) (h1 : r.head? ≠ some 32) :
    stripN lang (a' ++ (List.replicate k 32 ++ r)) = r ∧ invN lang (a' ++ (List.replicate k 32 ++ r)) = r ++ [44, 32] ++ a' := by
  obtain ⟨hl, G⟩ := good_art hm ha hc
  obtain ⟨S, hS⟩ : ∃ S, a' ++ (List.replicate k 32 ++ r) = S := ⟨_, rfl⟩
  have hd : (decR S).isSome = true := by rw [← hS]; exact dec_two G.dec (dec_two (dec_rep k) hr)
  have hw : wordN S = a'.length := by rw [← hS, word_app _ G.nsp, word_rep hk]; rfl
  have htk : S.take a'.length = a' := by rw [← hS]; exact List.take_left
  have hdr : S.drop a'.length = List.replicate k 32 ++ r := by rw [← hS]; exact List.drop_left
  have hsp : spN S a'.length = a'.length + k := by unfold spN; rw [hdr, blank_rep k h1]
  have hlen : spN S a'.length < S.length := by
    rw [hsp, ← hS, List.length_append, List.length_append, List.length_replicate]
    have := List.length_pos_iff.2 h0
    omega
  have hdrop : S.drop (a'.length + k) = r := by
    rw [← List.drop_drop, hdr]
    rw [List.drop_append_of_le_length (by rw [List.length_replicate]; exact Nat.le_refl _), List.drop_of_length_le (by rw [List.length_replicate]; exact Nat.le_refl _)]
    rfl
  have hnon : ∀ b, apoB b = false → artHit S (wordN S) (cutR S 2).length b = if a = b then some (a'.length, a'.length + k) else none := by
    intro b hb
    unfold artHit
    rw [if_neg (by rw [hb]; exact Bool.false_ne_true), hw, htk, G.fold]
    by_cases e : a = b
    · rw [if_pos ⟨e, hlen⟩, if_pos e, hsp]
    · rw [if_neg (fun h => e h.1), if_neg e]
  have hv : all.findSome? (artHit S (wordN S) (cutR S 2).length) = some (a'.length, a'.length + k) := by
    refine find_const (fun b hb => ?_) ha (by rw [hnon a hap, if_pos rfl])
    cases hbp : apoB b with
    | false =>
      rw [hnon b hbp]
      split
      · exact .inr rfl
      · exact .inl rfl
    | true =>
      left
      obtain ⟨g1, g2⟩ := G.two hap b hb hbp
      unfold artHit
      rw [if_pos hbp, if_neg]
      rintro ⟨h2, -⟩
      refine g1 ?_
      obtain ⟨p, hp⟩ := Option.isSome_iff_exists.1 (dec_two G.dec (show (decR [32]).isSome = true by exact dec_rep 1))
      obtain ⟨p1, p2⟩ := enc_dec hp
      have hnl : nL (a' ++ [32]) = p := by unfold nL; rw [hp]; rfl
      rw [hnl] at g2
      obtain ⟨j, rfl⟩ : ∃ j, k = j + 1 := ⟨k - 1, by omega⟩
      have hSe : S = encL p ++ (List.replicate j 32 ++ r) := by rw [← hS, p1, List.replicate_succ]; simp
      obtain ⟨l, hls⟩ := Option.isSome_iff_exists.1 hd
      rw [hSe] at hls h2
      rw [cut_two p2 hls g2, take_cut9] at h2
      have hc2 : cutR (a' ++ [32]) 2 = encL (p.take 2) := cutR_some hp (by decide)
      rw [hc2]
      exact h2
  have hb := begin_of hl hd hv (by show a'.length + k ≠ 0; omega)
  simp only at hb
  rw [hdrop, htk] at hb
  rw [hS]
  exact hb
theorem art_each2 {lang : List UInt8} {all : List (List UInt8)} (hm : (lang, all) ∈ langT.zip artT) {a : List UInt8} (ha : a ∈ all) {a' : List UInt8} (hc : a' = a ∨ a' = capB a) (hap : apoB a = true) {r : List UInt8} (hr : (decR r).isSome = true) (h0 : r ≠ []) (h1 : r.head? ≠ some 32) :
    stripN lang (a' ++ r) = r ∧ invN lang (a' ++ r) = r ++ [44, 32] ++ a' := by
  obtain ⟨hl, G⟩ := good_art hm ha hc
  obtain ⟨hone, hall⟩ := G.one hap
  obtain ⟨lr, hlr⟩ := Option.isSome_iff_exists.1 hr
  obtain ⟨r1, r2⟩ := enc_dec hlr
  obtain ⟨c, hcc, hae⟩ : ∃ c, (c = 108 ∨ c = 76) ∧ a' = encL [c, 39] := by
    rcases hone with e | e
    · exact ⟨108, .inl rfl, by rw [e]; decide⟩
    · exact ⟨76, .inr rfl, by rw [e]; decide⟩
  have hoc : ∀ x ∈ [c, 39], okC x := by
    have hf : okC 108 ∧ okC 76 ∧ okC 39 := ⟨⟨by decide, by decide +kernel⟩, ⟨by decide, by decide +kernel⟩, ⟨by decide, by decide +kernel⟩⟩
    intro x hx
    simp only [List.mem_cons, List.not_mem_nil, or_false] at hx
    rcases hx with rfl | rfl
    · rcases hcc with rfl | rfl
      · exact hf.1
      · exact hf.2.1
    · exact hf.2.2
  have hal : a'.length = 2 := by rcases hone with e | e <;> rw [e] <;> rfl
  obtain ⟨S, hS⟩ : ∃ S, a' ++ r = S := ⟨_, rfl⟩
  have hd : (decR S).isSome = true := by rw [← hS]; exact dec_two G.dec hr
  have htk : S.take 2 = a' := by rw [← hS, ← hal]; exact List.take_left
  have hdr : S.drop 2 = r := by rw [← hS, ← hal]; exact List.drop_left
  have hlen : 2 < S.length := by
    rw [← hS, List.length_append, hal]
    have := List.length_pos_iff.2 h0
    omega
  have hat : S[2]? ≠ some 32 := by
    intro e
    refine h1 ?_
    rw [← hdr, List.head?_eq_getElem?, List.getElem?_drop]
    exact e
  have hcut : (cutR S 2).length = 2 := by
    obtain ⟨l, hls⟩ := Option.isSome_iff_exists.1 hd
    rw [← hS, hae] at hls
    rw [← hS, hae, cut_two hoc hls (by simp)]
    rw [show [c, 39].take 2 = [c, 39] from rfl, ← hae, hal]
  have hv : all.findSome? (artHit S (wordN S) (cutR S 2).length) = some (2, 2) := by
    have hapo : ∀ b, apoB b = true → artHit S (wordN S) (cutR S 2).length b = if a = b then some (2, 2) else none := by
      intro b hb
      unfold artHit
      rw [if_pos hb, hcut, htk, G.fold]
      by_cases e : a = b
      · rw [if_pos ⟨e, hlen, hat⟩, if_pos e]
      · rw [if_neg (fun h => e h.1), if_neg e]
    refine find_const (fun b hb => ?_) ha (by rw [hapo a hap, if_pos rfl])
    cases hbp : apoB b with
    | true =>
      rw [hapo b hbp]
      split
      · exact .inr rfl
      · exact .inl rfl
    | false =>
      left
      have hb1 : b[1]? ≠ some 39 := by
        rcases hall b hb with e | e
        · rw [hbp] at e; cases e
        · exact e
      unfold artHit
      rw [if_neg (by rw [hbp]; exact Bool.false_ne_true), if_neg]
      rintro ⟨h2, -⟩
      refine hb1 ?_
      obtain ⟨q, u, q1, q2, q3⟩ := word_enc lr r2
      rw [r1] at q3
      have hw : S.take (wordN S) = encL (c :: 39 :: q) := by
        rw [← hS, word_app _ G.nsp, List.take_append, List.take_of_length_le (by omega), Nat.add_sub_cancel_left, q3, hae, ← encL_app]
        rfl
      rw [hw] at h2
      rw [← h2]
      exact fold_apo hcc fun x hx => r2 x (by rw [q1]; exact List.mem_append_left _ hx)
  have hb := begin_of hl hd hv (by decide)
  simp only at hb
  rw [hdr, htk] at hb
  rw [hS]
  exact hb

end Go.Proofs.YtmgofhbdaopapaaGreatDoor
