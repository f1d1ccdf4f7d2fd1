/-
  Articles of titles, as plain mathematics.
  Words of strings, as plain mathematics: the parts between blanks, and joining them.
  What the tables of the program and of the library hold; a character's decoding, and white space.
  Words with positions, zones, phrases of two texts, as plain mathematics.
-/
import Derived.Test.YtbnchnbblchmnaaGreatDoorPkAJ
import Derived.Test.YtbnchnbblchmnaaGreatDoorPkAE
import Derived.Test.YtbnchnbblchmnaaGreatDoorLay10
import Derived.Test.YtbnchnbblchmnaaGreatDoorPkAB
import Derived.Lib.Space
import Derived.Test.YtbnchnbblchmnaaGreatDoorPkAF
namespace Go.Proofs.YtbnchnbblchmnaaGreatDoor

/-! Blanks in bytes and in characters. -/
theorem encC_ascii {b : Nat} (hb : b < 128) {c : Nat} (h6 : c < 65536) : UInt8.ofNat b ∈ encC c ↔ c = b := by
  constructor
  · intro h
    by_cases hc : c < 128
    · rw [enc_one hc, List.mem_singleton] at h
      have h2 := congrArg UInt8.toNat h
      rw [UInt8.toNat_ofNat', UInt8.toNat_ofNat'] at h2
      omega
    · exfalso
      have hbig : ∀ x ∈ encC c, 128 ≤ x.toNat := by
        intro x hx
        unfold encC at hx
        rw [if_neg hc] at hx
        split at hx
        · simp only [List.mem_cons, List.not_mem_nil, or_false] at hx
          rcases hx with rfl | rfl <;> rw [UInt8.toNat_ofNat'] <;> omega
        · simp only [List.mem_cons, List.not_mem_nil, or_false] at hx
          rcases hx with rfl | rfl | rfl <;> rw [UInt8.toNat_ofNat'] <;> omega
      have h3 := hbig _ h
      rw [UInt8.toNat_ofNat'] at h3
      omega
  · rintro rfl
    rw [enc_one hb]
    exact List.mem_singleton.2 rfl
theorem mem_encL {b : UInt8} : ∀ {l : List Nat}, b ∈ encL l ↔ ∃ c ∈ l, b ∈ encC c
  | [] => by simp [encL]
  | c :: l => by
    rw [encL, List.mem_append, mem_encL]
    simp
theorem blank_mem {l : List Nat} (h : ∀ c ∈ l, okC c) : (32 : UInt8) ∈ encL l ↔ 32 ∈ l := by
  rw [mem_encL]
  constructor
  · rintro ⟨c, hc, hb⟩
    have := (encC_ascii (b := 32) (by decide) (h c hc).1).1 hb
    exact this ▸ hc
  · intro hc
    exact ⟨32, hc, (encC_ascii (b := 32) (by decide) (by decide)).2 rfl⟩
def wordN : List UInt8 → Nat
  | [] => 0
  | b :: t => if b = 32 then 0 else wordN t + 1
def blankN : List UInt8 → Nat
  | [] => 0
  | b :: t => if b = 32 then blankN t + 1 else 0
def spN (s : List UInt8) (k : Nat) : Nat := k + blankN (s.drop k)
theorem word_app {a : List UInt8} (t : List UInt8) (h : 32 ∉ a) : wordN (a ++ t) = a.length + wordN t := by
  induction a with
  | nil => simp
  | cons b a ih =>
    have h1 : b ≠ 32 := fun e => h (e ▸ List.mem_cons_self)
    rw [List.cons_append, wordN, if_neg h1, ih fun hm => h (List.mem_cons_of_mem _ hm), List.length_cons]
    omega
theorem word_split : ∀ s : List UInt8, ∃ t, s = s.take (wordN s) ++ t ∧ (t = [] ∨ ∃ u, t = 32 :: u) ∧ 32 ∉ s.take (wordN s) ∧ wordN s ≤ s.length
  | [] => ⟨[], rfl, .inl rfl, by simp [wordN], by simp [wordN]⟩
  | b :: s => by
    by_cases hb : b = 32
    · subst hb
      refine ⟨32 :: s, ?_, .inr ⟨s, rfl⟩, ?_, ?_⟩ <;> simp [wordN]
    · obtain ⟨t, h1, h2, h3, h4⟩ := word_split s
      refine ⟨t, ?_, h2, ?_, ?_⟩
      · rw [wordN, if_neg hb, List.take_succ_cons, List.cons_append, ← h1]
      · rw [wordN, if_neg hb, List.take_succ_cons]
        intro hm
        rcases List.mem_cons.1 hm with e | hm
        · exact hb e.symm
        · exact h3 hm
      · rw [wordN, if_neg hb, List.length_cons]; omega
theorem blank_split : ∀ t : List UInt8, ∃ u, t = List.replicate (blankN t) 32 ++ u ∧ u.head? ≠ some 32 ∧ blankN t + u.length = t.length
  | [] => ⟨[], rfl, by simp, rfl⟩
  | b :: t => by
    by_cases hb : b = 32
    · subst hb
      obtain ⟨u, h1, h2, h3⟩ := blank_split t
      refine ⟨u, ?_, h2, ?_⟩
      · rw [blankN, if_pos rfl, List.replicate_succ, List.cons_append, ← h1]
      · rw [blankN, if_pos rfl, List.length_cons]; omega
    · refine ⟨b :: t, ?_, ?_, ?_⟩
      · rw [blankN, if_neg hb]; rfl
      · simpa using hb
      · rw [blankN, if_neg hb]; simp
theorem blank_rep (k : Nat) {u : List UInt8} (h : u.head? ≠ some 32) : blankN (List.replicate k 32 ++ u) = k := by
  induction k with
  | zero =>
    cases u with
    | nil => rfl
    | cons b u =>
      have hb : b ≠ 32 := fun e => h (by rw [e]; rfl)
      show blankN (b :: u) = 0
      rw [blankN, if_neg hb]
  | succ k ih => rw [List.replicate_succ, List.cons_append, blankN, if_pos rfl, ih]
theorem rep_enc (k : Nat) : encL (List.replicate k 32) = List.replicate k (32 : UInt8) := by
  induction k with
  | zero => rfl
  | succ k ih => rw [List.replicate_succ, encL, ih]; rfl
theorem enc_split {p : List Nat} {t : List UInt8} {l : List Nat} (hp : ∀ c ∈ p, okC c) (h : decR (encL p ++ t) = some l) : ∃ m, l = p ++ m ∧ decR t = some m := by
  rw [dec_enc_app p hp t] at h
  obtain ⟨m, h1, h2⟩ := Option.map_eq_some_iff.1 h
  exact ⟨m, h2.symm, h1⟩
theorem ok_32 : okC 32 := by
  refine ⟨by decide, ?_⟩
  decide +kernel

theorem word_enc : ∀ (l : List Nat), (∀ c ∈ l, okC c) → ∃ q r, l = q ++ r ∧ 32 ∉ q ∧ (encL l).take (wordN (encL l)) = encL q
  | [], _ => ⟨[], [], rfl, by simp, rfl⟩
  | c :: l, h => by
    by_cases hc : c = 32
    · subst hc
      refine ⟨[], 32 :: l, rfl, by simp, ?_⟩
      show (32 :: encL l).take (wordN (32 :: encL l)) = []
      rw [wordN, if_pos rfl]
      rfl
    · obtain ⟨q, r, h1, h2, h3⟩ := word_enc l fun x hx => h x (List.mem_cons_of_mem _ hx)
      have hb : (32 : UInt8) ∉ encC c := fun hm => hc ((encC_ascii (b := 32) (by decide) (h c List.mem_cons_self).1).1 hm)
      refine ⟨c :: q, r, by rw [h1]; rfl, ?_, ?_⟩
      · intro hm
        rcases List.mem_cons.1 hm with e | hm
        · exact hc e.symm
        · exact h2 hm
      · rw [encL, word_app _ hb, List.take_append, List.take_of_length_le (by omega), Nat.add_sub_cancel_left, h3, encL]

/-! The tables. -/
def langT : List (List UInt8) := [[100, 97, 110], [100, 117, 116], [101, 110, 103], [102, 114, 101], [103, 101, 114], [103, 114, 101], [105, 116, 97], [112, 111, 114], [115, 112, 97], [115, 119, 101]]
def artT : List (List (List UInt8)) :=
  [[[101, 110], [101, 116], [100, 101, 110], [100, 101, 116]],
   [[100, 101], [104, 101, 116], [101, 101, 110], [39, 116]],
   [[116, 104, 101], [97], [97, 110]],
   [[108, 101], [108, 97], [108, 101, 115], [108, 39], [117, 110], [117, 110, 101], [100, 101, 115]],
   [[100, 101, 114], [100, 105, 101], [100, 97, 115], [101, 105, 110], [101, 105, 110, 101]],
   [[206, 191], [206, 183], [207, 132, 206, 191], [206, 191, 206, 185], [207, 132, 206, 177]],
   [[105, 108], [108, 111], [108, 97], [105], [103, 108, 105], [108, 101], [108, 39], [117, 110], [117, 110, 111], [117, 110, 97]],
   [[111], [97], [111, 115], [97, 115], [117, 109], [117, 109, 97]],
   [[101, 108], [108, 97], [108, 111, 115], [108, 97, 115], [117, 110], [117, 110, 97]],
   [[101, 110], [101, 116, 116], [100, 101, 110], [100, 101, 116]]]
def artsOf (lang : List UInt8) : List (List UInt8) := ((langT.zip artT).find? fun p => p.1 == lang).elim [] fun p => p.2
def apoB (a : List UInt8) : Bool := a.getLast? == some 39
def artHit (s : List UInt8) (word two : Nat) (a : List UInt8) : Option (Nat × Nat) :=
  if apoB a = true then (if nFold (s.take two) = a ∧ two < s.length ∧ s[two]? ≠ some 32 then some (two, two) else none)
  else (if nFold (s.take word) = a ∧ spN s word < s.length then some (word, spN s word) else none)
def hitsN (s : List UInt8) (l : List (List UInt8)) : Nat × Nat := (l.findSome? (artHit s (wordN s) (cutR s 2).length)).getD (0, 0)
def beginN (lang s : List UInt8) : Nat × Nat := if (decR s).isSome = true then hitsN s (artsOf lang) else (0, 0)
def skipN (lang s : List UInt8) : Nat := (beginN lang s).2
def stripN (lang s : List UInt8) : List UInt8 := s.drop (skipN lang s)
def invN (lang s : List UInt8) : List UInt8 := if (beginN lang s).2 = 0 then s else s.drop (beginN lang s).2 ++ [44, 32] ++ s.take (beginN lang s).1
def sortA (s : List UInt8) (k : Int) : List UInt8 :=
  match decR s with
  | none => s
  | some l => if k < 1 ∨ 9 < k ∨ (l.length : Int) ≤ k then s else if s.length ≤ spN s (cutR s k).length then s else s.drop (spN s (cutR s k).length)
theorem hit_some {s : List UInt8} {l : List (List UInt8)} (h : (hitsN s l).2 ≠ 0) : ∃ a ∈ l, artHit s (wordN s) (cutR s 2).length a = some (hitsN s l) := by
  unfold hitsN at h ⊢
  cases hf : l.findSome? (artHit s (wordN s) (cutR s 2).length) with
  | none => rw [hf] at h; exact absurd rfl h
  | some p =>
    obtain ⟨a, ha, h1⟩ := List.exists_of_findSome?_eq_some hf
    exact ⟨a, ha, h1⟩

/-- Where a title has an article: what stands in front of the rest. -/
theorem skip_split {lang s : List UInt8} (h : skipN lang s ≠ 0) :
    ∃ (p m : List Nat) (a : List UInt8), decR s = some (p ++ m) ∧ s = encL p ++ encL m ∧ (∀ c ∈ p, okC c) ∧ (encL p).length = skipN lang s ∧ p ≠ [] ∧ m ≠ [] ∧ (encL m).head? ≠ some 32 ∧ a ∈ artsOf lang ∧
      ((apoB a = true ∧ nFold (encL p) = a ∧ (beginN lang s).1 = skipN lang s) ∨ ∃ q k, p = q ++ List.replicate k 32 ∧ 0 < k ∧ nFold (encL q) = a ∧ 32 ∉ q ∧ (beginN lang s).1 = (encL q).length) := by
  unfold skipN beginN at h ⊢
  cases hd : (decR s).isSome with
  | false => rw [hd] at h; exact absurd rfl h
  | true =>
    rw [hd, if_pos rfl] at h
    simp only [if_true]
    obtain ⟨l, hl⟩ := Option.isSome_iff_exists.1 hd
    obtain ⟨hs, hok⟩ := enc_dec hl
    obtain ⟨a, ha, hit⟩ := hit_some h
    obtain ⟨N, hN⟩ : ∃ N, hitsN s (artsOf lang) = N := ⟨_, rfl⟩
    rw [hN] at h hit ⊢
    unfold artHit at hit
    by_cases hap : apoB a = true
    · rw [if_pos hap] at hit
      split at hit
      · rename_i hc
        injection hit with hit
        subst hit
        obtain ⟨h1, h2, h3⟩ := hc
        simp only at h
        have hcut : cutR s 2 = encL (l.take 2) := cutR_some hl (by decide)
        have hsp : s = encL (l.take 2) ++ encL (l.drop 2) := by rw [← encL_app, List.take_append_drop, hs]
        rw [hcut] at h h1 h2 h3 ⊢
        have htk : s.take (encL (l.take 2)).length = encL (l.take 2) := by
          conv => lhs; rw [hsp]
          exact List.take_left
        refine ⟨l.take 2, l.drop 2, a, ?_, hsp, fun c hc => hok c (List.mem_of_mem_take hc), rfl, ?_, ?_, ?_, ha, .inl ⟨hap, by rw [← htk]; exact h1, rfl⟩⟩
        · rw [hl, List.take_append_drop]
        · intro e; rw [e] at h; exact h rfl
        · intro e
          rw [e] at hsp
          rw [hsp] at h2
          simp [encL] at h2
        · intro e
          refine h3 ?_
          rw [hsp, List.getElem?_append_right (Nat.le_refl _), Nat.sub_self, ← List.head?_eq_getElem?]
          exact e
      · cases hit
    · rw [if_neg hap] at hit
      split at hit
      · rename_i hc
        injection hit with hit
        subst hit
        obtain ⟨h1, h2⟩ := hc
        simp only at h ⊢
        obtain ⟨t, t1, t2, t3, t4⟩ := word_split s
        obtain ⟨u, u1, u2, u3⟩ := blank_split t
        have hdt : s.drop (wordN s) = t := List.append_cancel_left ((List.take_append_drop (wordN s) s).trans t1)
        obtain ⟨q, r, q1, q2, q3⟩ := word_enc l hok
        rw [hs] at q3
        have hqo : ∀ c ∈ q, okC c := fun c hc => hok c (by rw [q1]; exact List.mem_append_left _ hc)
        have hpo : ∀ c ∈ q ++ List.replicate (blankN t) 32, okC c := fun c hc => by
          rcases List.mem_append.1 hc with hc | hc
          · exact hqo c hc
          · rw [(List.mem_replicate.1 hc).2]; exact ok_32
        have hse : s = encL (q ++ List.replicate (blankN t) 32) ++ u := by
          rw [encL_app, rep_enc, List.append_assoc, ← u1, ← q3]
          exact t1
        have hl2 := hl
        rw [hse] at hl2
        obtain ⟨m, m1, m2⟩ := enc_split hpo hl2
        obtain ⟨m3, m4⟩ := enc_dec m2
        have hW : (encL q).length = wordN s := by rw [← q3, List.length_take]; omega
        have hlen : (encL (q ++ List.replicate (blankN t) 32)).length = spN s (wordN s) := by
          rw [encL_app, List.length_append, hW, rep_enc, List.length_replicate]
          unfold spN
          rw [hdt]
        refine ⟨q ++ List.replicate (blankN t) 32, m, a, by rw [hl, m1], by rw [m3]; exact hse, hpo, hlen, ?_, ?_, by rw [m3]; exact u2, ha, .inr ⟨q, blankN t, rfl, ?_, by rw [← q3]; exact h1, q2, hW.symm⟩⟩
        · intro e
          rw [e] at hlen
          exact h hlen.symm
        · intro e
          rw [e] at m3
          rw [← hlen, hse, ← m3] at h2
          simp [encL] at h2
        · rcases t2 with e | ⟨v, e⟩
          · subst e
            rw [List.append_nil] at t1
            unfold spN at h2
            rw [hdt] at h2
            have h9 := congrArg List.length t1
            rw [List.length_take] at h9
            have h10 : blankN [] = 0 := rfl
            omega
          · rw [e, blankN, if_pos rfl]; omega
      · cases hit

end Go.Proofs.YtbnchnbblchmnaaGreatDoor

namespace Go.Proofs.YtbnchnbblchmnaaGreatDoor

section
variable {α : Type} [DecidableEq α] {z : α}
/-- The parts of a list between its z's; 'cur': what stands already of the first one. -/
def partsG (z : α) : List α → List α → List (List α)
  | cur, [] => if cur = [] then [] else [cur]
  | cur, b :: t => if b = z then (if cur = [] then partsG z [] t else cur :: partsG z [] t) else partsG z (cur ++ [b]) t
def joinG (z : α) : List (List α) → List α
  | [] => []
  | [x] => x
  | x :: y :: l => x ++ z :: joinG z (y :: l)
theorem parts_app (b : List α) : ∀ (a cur : List α), partsG z cur (a ++ z :: b) = partsG z cur a ++ partsG z [] b
  | [], cur => by
    have e : partsG z cur (z :: b) = if cur = [] then partsG z [] b else cur :: partsG z [] b := by rw [partsG, if_pos rfl]
    have e2 : partsG z cur [] = if cur = [] then [] else [cur] := by rw [partsG]
    rw [List.nil_append, e, e2]
    split <;> rfl
  | c :: a, cur => by
    rw [List.cons_append, partsG, partsG]
    by_cases hc : c = z
    · rw [if_pos hc, if_pos hc, parts_app b a []]
      split <;> rfl
    · rw [if_neg hc, if_neg hc, parts_app b a (cur ++ [c])]
theorem parts_run (t : List α) : ∀ (a cur : List α), z ∉ a → partsG z cur (a ++ t) = partsG z (cur ++ a) t
  | [], cur, _ => by rw [List.nil_append, List.append_nil]
  | c :: a, cur, h => by
    have hc : c ≠ z := fun e => h (e ▸ List.mem_cons_self)
    rw [List.cons_append, partsG, if_neg hc, parts_run t a _ fun hm => h (List.mem_cons_of_mem _ hm), List.append_assoc]
    rfl
theorem parts_word {a : List α} (h : z ∉ a) (h0 : a ≠ []) : partsG z [] a = [a] := by
  have h1 := parts_run (z := z) [] a [] h
  rw [List.append_nil, List.nil_append] at h1
  rw [h1, partsG, if_neg h0]
theorem parts_good : ∀ (s cur : List α), z ∉ cur → ∀ x ∈ partsG z cur s, x ≠ [] ∧ z ∉ x
  | [], cur, h, x, hx => by
    rw [partsG] at hx
    split at hx
    · cases hx
    · rw [List.mem_singleton.1 hx]; exact ⟨by assumption, h⟩
  | b :: s, cur, h, x, hx => by
    rw [partsG] at hx
    split at hx
    · split at hx
      · exact parts_good s [] (by simp) x hx
      · rcases List.mem_cons.1 hx with rfl | hx
        · exact ⟨by assumption, h⟩
        · exact parts_good s [] (by simp) x hx
    · rename_i hb
      refine parts_good s (cur ++ [b]) (fun hm => ?_) x hx
      rcases List.mem_append.1 hm with hm | hm
      · exact h hm
      · exact hb (List.mem_singleton.1 hm).symm
theorem parts_join : ∀ (ws : List (List α)), (∀ x ∈ ws, x ≠ [] ∧ z ∉ x) → partsG z [] (joinG z ws) = ws
  | [], _ => by rw [joinG, partsG, if_pos rfl]
  | [x], h => by
    obtain ⟨h1, h2⟩ := h x List.mem_cons_self
    rw [joinG, parts_word h2 h1]
  | x :: y :: l, h => by
    obtain ⟨h1, h2⟩ := h x List.mem_cons_self
    rw [joinG, parts_app, parts_word h2 h1, parts_join (y :: l) fun w hw => h w (List.mem_cons_of_mem _ hw)]
    rfl
end

section
variable {α : Type} {z : α}
theorem join_cons {x : List α} : ∀ ws : List (List α), joinG z (x :: ws) = if ws = [] then x else x ++ z :: joinG z ws
  | [] => by rw [if_pos rfl]; rfl
  | y :: l => by rw [joinG, if_neg (by simp)]
theorem join_nil {ws : List (List α)} (h : ∀ x ∈ ws, x ≠ []) : joinG z ws = [] ↔ ws = [] := by
  cases ws with
  | nil => simp [joinG]
  | cons x l =>
    have h1 := h x List.mem_cons_self
    rw [join_cons]
    split <;> simp [h1]
end

/-- Squeezing is joining the parts. -/
theorem sq_join_both : ∀ l : List Nat, sq l = joinG 32 (partsG 32 [] l) ∧ ∀ cur : List Nat, cur ≠ [] → cur ++ sqT false l = joinG 32 (partsG 32 cur l)
  | [] => ⟨by simp [sq, partsG, joinG], fun cur h => by simp [sqT, partsG, joinG, h]⟩
  | c :: l => by
    obtain ⟨h1, h2⟩ := sq_join_both l
    by_cases hc : c = 32
    · subst hc
      refine ⟨?_, fun cur h => ?_⟩
      · rw [sq_sp, h1, partsG, if_pos rfl, if_pos rfl]
      · have hg : ∀ x ∈ partsG 32 [] l, x ≠ [] := fun x hx => (parts_good l [] (by simp) x hx).1
        rw [sqT_sp, sqT_true, partsG, if_pos rfl, if_neg h, join_cons, h1]
        by_cases h0 : partsG 32 [] l = []
        · rw [if_pos ((join_nil hg).2 h0), if_pos h0, List.append_nil]
        · rw [if_neg (fun e => h0 ((join_nil hg).1 e)), if_neg h0]
    · refine ⟨?_, fun cur h => ?_⟩
      · rw [sq_cons hc, partsG, if_neg hc]
        exact h2 [c] (by simp)
      · rw [sqT_f hc, partsG, if_neg hc, ← h2 (cur ++ [c]) (by simp), List.append_assoc]
        rfl
theorem sq_join (l : List Nat) : sq l = joinG 32 (partsG 32 [] l) := (sq_join_both l).1

/-! Words of a string, as lists of characters. -/
def tkL (s : List UInt8) : List Nat := (nFL s).flatMap tokL
def wordsL (s : List UInt8) : List (List Nat) := partsG 32 [] (tkL s)
theorem words_good (s : List UInt8) : ∀ x ∈ wordsL s, x ≠ [] ∧ 32 ∉ x := parts_good _ _ (by simp)
theorem words_search (s : List UInt8) : nSL s = joinG 32 (wordsL s) := by
  have e : nSL s = sq (tkL s) := rfl
  rw [e, sq_join]
  rfl
theorem words_blank {s t : List UInt8} (hs : (decR s).isSome = true) (ht : (decR t).isSome = true) : wordsL (s ++ 32 :: t) = wordsL s ++ wordsL t := by
  unfold wordsL tkL
  rw [nFL_blank hs ht, List.flatMap_append, List.flatMap_cons, blank_facts.2.2.2.2, List.singleton_append, parts_app]
theorem words_empty : wordsL [] = [] := by decide +kernel
theorem words_none {s : List UInt8} (h : decR s = none) : wordsL s = [] := by
  have e : nL s = nL [] := by unfold nL; rw [h]; rfl
  have e2 : wordsL s = wordsL [] := by unfold wordsL tkL nFL; rw [e]
  rw [e2, words_empty]
theorem words_fold (s : List UInt8) : wordsL (nFold s) = wordsL s := by unfold wordsL tkL; rw [nFL_nFold]
theorem words_nSearch (s : List UInt8) : wordsL (nSearch s) = wordsL s := by
  have h1 := words_search (nSearch s)
  have h2 : nSL (nSearch s) = nSL s := by
    have e : nSL (nSearch s) = searchL (nFL (nSearch s)) := rfl
    rw [e, nFL_nSearch]
    exact search_search (dec_dc s)
  rw [h2, words_search s] at h1
  have h3 := congrArg (partsG 32 []) h1
  rw [parts_join _ (words_good s), parts_join _ (words_good (nSearch s))] at h3
  exact h3.symm

/-! .. and as lists of bytes. -/
theorem parts_enc : ∀ (l cur : List Nat), (∀ c ∈ l, okC c) → partsG (32 : UInt8) (encL cur) (encL l) = (partsG 32 cur l).map encL
  | [], cur, _ => by
    rw [encL, partsG, partsG]
    by_cases h : cur = []
    · rw [if_pos h, if_pos (encL_nil.2 h)]; rfl
    · rw [if_neg h, if_neg (fun e => h (encL_nil.1 e))]; rfl
  | c :: l, cur, h => by
    have hl := fun x hx => h x (List.mem_cons_of_mem c hx)
    by_cases hc : c = 32
    · subst hc
      have e : encL (32 :: l) = (32 : UInt8) :: encL l := rfl
      have ih := parts_enc l [] hl
      rw [show encL [] = [] from rfl] at ih
      rw [e, partsG, if_pos rfl, partsG, if_pos rfl, ih]
      by_cases h0 : cur = []
      · rw [if_pos h0, if_pos (encL_nil.2 h0)]
      · rw [if_neg h0, if_neg (fun e => h0 (encL_nil.1 e))]; rfl
    · have h32 : (32 : UInt8) ∉ encC c := fun hm => hc ((encC_ascii (b := 32) (by decide) (h c List.mem_cons_self).1).1 hm)
      have e1 : encL (cur ++ [c]) = encL cur ++ encC c := by rw [encL_app]; simp [encL]
      rw [encL, parts_run _ _ _ h32, ← e1, parts_enc l (cur ++ [c]) hl, partsG, if_neg hc]
theorem join_enc : ∀ ws : List (List Nat), encL (joinG 32 ws) = joinG 32 (ws.map encL)
  | [] => rfl
  | [x] => rfl
  | x :: y :: l => by
    have ih := join_enc (y :: l)
    rw [joinG, encL_app, List.map_cons, List.map_cons, joinG]
    have e : encL (32 :: joinG 32 (y :: l)) = (32 : UInt8) :: encL (joinG 32 (y :: l)) := rfl
    rw [e, ih]
    rfl
def textsB (s : List UInt8) : List (List UInt8) := (wordsL s).map encL
theorem words_ok (s : List UInt8) : ∀ x ∈ wordsL s, ∀ c ∈ x, okC c := by
  have hmem : ∀ (l cur : List Nat) (x : List Nat), x ∈ partsG 32 cur l → ∀ c ∈ x, c ∈ cur ∨ c ∈ l := by
    intro l
    induction l with
    | nil =>
      intro cur x hx c hc
      rw [partsG] at hx
      split at hx
      · cases hx
      · rw [List.mem_singleton.1 hx] at hc; exact .inl hc
    | cons b l ih =>
      intro cur x hx c hc
      rw [partsG] at hx
      split at hx
      · split at hx
        · rcases ih [] x hx c hc with h | h
          · cases h
          · exact .inr (List.mem_cons_of_mem _ h)
        · rcases List.mem_cons.1 hx with rfl | hx
          · exact .inl hc
          · rcases ih [] x hx c hc with h | h
            · cases h
            · exact .inr (List.mem_cons_of_mem _ h)
      · rcases ih (cur ++ [b]) x hx c hc with h | h
        · rcases List.mem_append.1 h with h | h
          · exact .inl h
          · rw [List.mem_singleton.1 h]; exact .inr List.mem_cons_self
        · exact .inr (List.mem_cons_of_mem _ h)
  intro x hx c hc
  rcases hmem (tkL s) [] x hx c hc with h | h
  · cases h
  · rcases tok_mem (dec_dc s) h with rfl | g
    · exact ok_of_has blank_facts.1
    · exact ok_of_has g.has
theorem search_join (s : List UInt8) : nSearch s = joinG 32 (textsB s) := by
  unfold nSearch textsB
  rw [words_search, join_enc]
theorem texts_good (s : List UInt8) : ∀ x ∈ textsB s, x ≠ [] ∧ 32 ∉ x := by
  intro x hx
  obtain ⟨y, hy, rfl⟩ := List.mem_map.1 hx
  obtain ⟨h1, h2⟩ := words_good s y hy
  refine ⟨fun e => h1 (encL_nil.1 e), fun hm => h2 ?_⟩
  exact (blank_mem (words_ok s y hy)).1 hm
theorem texts_parts (s : List UInt8) : partsG 32 [] (nSearch s) = textsB s := by
  rw [search_join, parts_join _ (texts_good s)]
theorem texts_alike (s t : List UInt8) : nSearch s = nSearch t ↔ textsB s = textsB t := by
  constructor
  · intro h
    rw [← texts_parts s, ← texts_parts t, h]
  · intro h
    rw [search_join, search_join, h]
theorem texts_blank {s t : List UInt8} (hs : (decR s).isSome = true) (ht : (decR t).isSome = true) : textsB (s ++ 32 :: t) = textsB s ++ textsB t := by
  unfold textsB
  rw [words_blank hs ht, List.map_append]
theorem texts_empty : textsB [] = [] := by unfold textsB; rw [words_empty]; rfl
theorem texts_fold (s : List UInt8) : textsB (nFold s) = textsB s := by unfold textsB; rw [words_fold]
theorem texts_nSearch (s : List UInt8) : textsB (nSearch s) = textsB s := by unfold textsB; rw [words_nSearch]

end Go.Proofs.YtbnchnbblchmnaaGreatDoor

namespace Go.Proofs.YtbnchnbblchmnaaGreatDoor
open Go.RowKit Go.Lib

/-- What the program's and the library's tables hold when a call begins. -/
structure Ready10 (w : World) : Prop where
  spans : Spans w
  utf8 : Lib.Utf8Tabs 3 4 w
  white : Lib.WhiteTab 2 w
  ascii : ∀ c : Nat, c < 256 → w.cell? ⟨1, c, none⟩ = some (.int .u8 (if Lib.isSp (UInt8.ofNat c) then 1 else 0))

theorem cell_blockT {w : World} {a : Addr} {v : Value} (h : w.cell? a = some v) : ∃ o, w.heap[a.block]? = some o ∧ o.isCells = true := by
  unfold World.cell? at h
  cases ho : w.heap[a.block]? with
  | none => simp [ho] at h
  | some o => exact ⟨o, rfl, by cases o <;> simp_all [Obj.isCells]⟩
theorem cell_same {w w' : World} {a : Addr} (h : w'.heap[a.block]? = w.heap[a.block]?) : w'.cell? a = w.cell? a := by unfold World.cell?; rw [h]
theorem Ready10.of_cells {w w' : World} (h : Ready10 w) (hc : ∀ (k : Nat) (o : Obj), w.heap[k]? = some o → o.isCells = true → w'.heap[k]? = some o) : Ready10 w' := by
  have key : ∀ {a : Addr} {v : Value}, w.cell? a = some v → w'.cell? a = some v := by
    intro a v ha
    obtain ⟨o, h1, h2⟩ := cell_blockT ha
    exact (cell_same ((hc _ o h1 h2).trans h1.symm)).trans ha
  obtain ⟨⟨t, fz, h1⟩, ⟨h2, h3⟩, ⟨T, oT, R, oR, h4, h5, h6, h7, h8⟩, h9⟩ := h
  exact ⟨⟨t, fz, hc _ _ h1 rfl⟩, ⟨fun c hc' => key (h2 c hc'), fun i hi => ⟨key (h3 i hi).1, key (h3 i hi).2⟩⟩, ⟨T, oT, R, oR, key h4, key h5, key h6, key h7, fun i hi => key (h8 i hi)⟩, fun c hc' => key (h9 c hc')⟩
theorem Ready10.below {w w' : World} (h : Ready10 w) (hb : Below w.heap.size w w') : Ready10 w' :=
  h.of_cells fun k _ hk _ => (hb.block k (Array.getElem?_eq_some_iff.1 hk).1).trans hk
theorem Ready10.putObj {w : World} (h : Ready10 w) {l : Nat} {o : Obj} (o' : Obj) (hl : w.heap[l]? = some o) (ho : o.isCells = false) : Ready10 (w.putObj l o') :=
  h.of_cells fun k o2 hk hc => (World.putObj_heap_other (fun e => by subst e; rw [hl] at hk; cases hk; rw [ho] at hc; cases hc)).trans hk

/-! White space. -/
theorem letter_space : ∀ z : Nat, Lib.IsSpaceP z → z ≠ 32 → kN z ≠ 1 ∧ ¬ (kN z = 3 ∧ z ≤ 57) := by
  intro z hz hne
  have key : ∀ y ∈ [9, 10, 11, 12, 13, 133, 160, 5760, 8192, 8193, 8194, 8195, 8196, 8197, 8198, 8199, 8200, 8201, 8202, 8232, 8233, 8239, 8287, 12288], kN y ≠ 1 ∧ ¬ (kN y = 3 ∧ y ≤ 57) := by decide +kernel
  apply key
  unfold Lib.IsSpaceP at hz
  simp only [List.mem_cons, List.not_mem_nil, or_false]
  omega
/-- A character of a search form is a blank, or no white space. -/
theorem search_space (s : List UInt8) {y : Nat} (h : y ∈ nSL s) : y = 32 ∨ Lib.isSpaceR y = false := by
  obtain ⟨i, hi⟩ := List.mem_iff_getElem?.1 h
  rcases search_chars s hi with h1 | ⟨h1, h2⟩
  · exact .inl h1.1
  · refine .inr (Lib.isSpaceR_false fun hp => ?_)
    have hl := letter_space y hp h1
    rcases h2 with h2 | h2
    · exact hl.2 h2
    · exact hl.1 h2.1
theorem search_okC (s : List UInt8) {y : Nat} (h : y ∈ nSL s) : okC y := by
  rcases search_mem (dec_dc s) h with rfl | g
  · exact ok_of_has blank_facts.1
  · exact ok_of_has g.has

/-- The first character of a string. -/
theorem decode_first (c : Nat) (t : List UInt8) (w : World) (hS : Lib.Utf8Tabs 3 4 w) (hc : okC c) :
    Calls Tryz.prog 106 #[.string (str (encC c ++ t))] w fun e w' => e = .returned (.tuple #[.int .i32 (c : Int), .int .i64 ((encC c).length : Int)]) ∧ Below w.heap.size w w' := by
  have h1 := Any.utf8_DecodeRuneInString decLays (str (encC c ++ t)) w hS
  have h2 : Calls Tryz.prog 106 #[.string (str (encC c ++ t))] w _ := h1
  refine h2.mono ?_
  rintro e w' ⟨rfl, hb⟩
  refine ⟨?_, hb⟩
  have hl := (encC_len c).1
  have h0 : encC c ++ t ≠ [] := by
    intro e
    rw [(List.append_eq_nil_iff.1 e).1] at hl
    exact absurd hl (by decide)
  have hat : atR (encC c ++ t) = (c, (encC c).length) := atR_enc hc.1 _
  have hrune : runeAt (encC c ++ t) = atR (encC c ++ t) := by
    have e : kindR ((runeAt (encC c ++ t)).1 : Int) ≠ 0 := fun hz => by
      rcases rune_bad h0 hz with h | h
      · rw [hat] at h
        have h2 : (encC c).length = 0 := h
        omega
      · rw [hat] at h
        exact hc.2 h
    exact (rune_good h0 e).symm
  have hsz : (str (encC c ++ t)).size ≠ 0 := by
    rw [str_size]
    exact fun h => h0 (List.length_eq_zero_iff.1 h)
  have hgo : Lib.decodeGo (str (encC c ++ t)) = atR (encC c ++ t) := by
    unfold Lib.decodeGo
    rw [if_neg hsz, decode_drop, List.drop_zero, hrune]
  rw [hgo, hat]
theorem isSpace_any (c : Nat) (w : World) (hW : Lib.WhiteTab 2 w) (hc : c < 65536) :
    Calls Tryz.prog 107 #[.int .i32 (c : Int)] w fun e w' => e = .returned (.bool (Lib.isSpaceR c)) ∧ ∃ q, w' = w.drewN q := by
  have h1 := Any.unicode_IsSpace_any_d spaceLays (c : Int) w (by omega) (by omega) hW
  rw [Lib.isSpaceZ_nat] at h1
  exact h1

end Go.Proofs.YtbnchnbblchmnaaGreatDoor

namespace Go.Proofs.YtbnchnbblchmnaaGreatDoor

abbrev WordL := List UInt8 × Nat
def wordsP (s : List UInt8) : List WordL := (textsB s).zipIdx
def beginOf (gap : Nat) (out : List WordL) : Nat := match out.getLast? with | none => 0 | some w => w.2 + 1 + gap
def zoneStep (gap : Nat) (out : List WordL) (s : List UInt8) : List WordL := out ++ (textsB s).zipIdx (beginOf gap out)
def zoneP (gap : Nat) (l : List (List UInt8)) : List WordL := l.foldl (zoneStep gap) []
theorem zone_snoc (gap : Nat) (l : List (List UInt8)) (s : List UInt8) : zoneP gap (l ++ [s]) = zoneP gap l ++ (textsB s).zipIdx (beginOf gap (zoneP gap l)) := by
  unfold zoneP
  rw [List.foldl_append]
  rfl
theorem list_snoc {α : Type} (P : List α → Prop) (h0 : P []) (h1 : ∀ l x, P l → P (l ++ [x])) (l : List α) : P l := by
  have h : ∀ m : List α, P m.reverse := by
    intro m
    induction m with
    | nil => exact h0
    | cons x m ih => rw [List.reverse_cons]; exact h1 _ _ ih
  have := h l.reverse
  rwa [List.reverse_reverse] at this

/-! Zones are ordered. -/
def OrdP (l : List WordL) : Prop := l.Pairwise (fun a b => a.2 < b.2) ∧ ∀ w ∈ l, w.1 ≠ []
theorem idx_mem {l : List (List UInt8)} {k : Nat} {w : WordL} (h : w ∈ l.zipIdx k) : k ≤ w.2 ∧ w.2 < k + l.length ∧ l[w.2 - k]? = some w.1 ∧ w.1 ∈ l := by
  obtain ⟨x, i⟩ := w
  have h1 := List.mem_zipIdx h
  refine ⟨h1.1, by omega, ?_, ?_⟩
  · rw [h1.2.2]
    exact List.getElem?_eq_getElem (by omega)
  · rw [h1.2.2]
    exact List.getElem_mem _
theorem idx_in {l : List (List UInt8)} {k i : Nat} {x : List UInt8} (h : l[i]? = some x) : (x, k + i) ∈ l.zipIdx k := by
  rw [List.mem_zipIdx_iff_le_and_getElem?_sub]
  exact ⟨by simp, by simpa using h⟩
theorem idx_pair : ∀ (l : List (List UInt8)) (k : Nat), (l.zipIdx k).Pairwise fun a b => a.2 < b.2
  | [], _ => by simp
  | x :: l, k => by
    rw [List.zipIdx_cons, List.pairwise_cons]
    refine ⟨fun w hw => ?_, idx_pair l (k + 1)⟩
    have := (idx_mem hw).1
    show k < w.2
    omega
theorem last_most {l : List WordL} (h : l.Pairwise fun a b => a.2 < b.2) {w v : WordL} (hw : l.getLast? = some w) (hv : v ∈ l) : v.2 ≤ w.2 := by
  obtain ⟨t, rfl⟩ := List.getLast?_eq_some_iff.1 hw
  rcases List.mem_append.1 hv with hm | hm
  · have := (List.pairwise_append.1 h).2.2 v hm w (List.mem_singleton.2 rfl)
    omega
  · rw [List.mem_singleton.1 hm]; exact Nat.le_refl _
theorem begin_above {gap : Nat} {l : List WordL} (h : l.Pairwise fun a b => a.2 < b.2) {v : WordL} (hv : v ∈ l) : v.2 + 1 + gap ≤ beginOf gap l := by
  unfold beginOf
  cases hw : l.getLast? with
  | none => rw [List.getLast?_eq_none_iff.1 hw] at hv; cases hv
  | some w =>
    have := last_most h hw hv
    show v.2 + 1 + gap ≤ w.2 + 1 + gap
    omega
theorem zone_ord (gap : Nat) (l : List (List UInt8)) : OrdP (zoneP gap l) := by
  refine list_snoc (fun l => OrdP (zoneP gap l)) ⟨List.Pairwise.nil, fun w hw => by cases hw⟩ (fun l s ih => ?_) l
  rw [zone_snoc]
  refine ⟨List.pairwise_append.2 ⟨ih.1, idx_pair _ _, fun a ha b hb => ?_⟩, fun w hw => ?_⟩
  · have h1 := begin_above (gap := gap) ih.1 ha
    have h2 := (idx_mem hb).1
    omega
  · rcases List.mem_append.1 hw with hm | hm
    · exact ih.2 w hm
    · exact (texts_good s w.1 (idx_mem hm).2.2.2).1
theorem words_ord (s : List UInt8) : OrdP (wordsP s) := ⟨idx_pair _ _, fun w hw => (texts_good s w.1 (idx_mem hw).2.2.2).1⟩

/-! With the gap 0. -/
theorem begin_idx (l : List (List UInt8)) : beginOf 0 l.zipIdx = l.length := by
  refine list_snoc (fun l => beginOf 0 l.zipIdx = l.length) rfl (fun l x _ => ?_) l
  rw [List.zipIdx_append]
  unfold beginOf
  simp
theorem zone_zero (l : List (List UInt8)) : zoneP 0 l = (l.flatMap textsB).zipIdx := by
  refine list_snoc (fun l => zoneP 0 l = (l.flatMap textsB).zipIdx) rfl (fun l s ih => ?_) l
  rw [zone_snoc, ih, begin_idx, List.flatMap_append, List.zipIdx_append]
  simp
/-- The strings, each with a blank in front. -/
def joinedB (l : List (List UInt8)) : List UInt8 := l.foldl (fun o s => o ++ 32 :: s) []
theorem joined_snoc (l : List (List UInt8)) (s : List UInt8) : joinedB (l ++ [s]) = joinedB l ++ 32 :: s := by
  unfold joinedB
  rw [List.foldl_append]
  rfl
theorem joined_words {l : List (List UInt8)} : (∀ s ∈ l, (decR s).isSome = true) → (decR (joinedB l)).isSome = true ∧ textsB (joinedB l) = l.flatMap textsB := by
  refine list_snoc (fun l => (∀ s ∈ l, (decR s).isSome = true) → (decR (joinedB l)).isSome = true ∧ textsB (joinedB l) = l.flatMap textsB) (fun _ => ⟨rfl, texts_empty⟩) (fun l s ih h => ?_) l
  obtain ⟨h1, h2⟩ := ih fun x hx => h x (List.mem_append_left _ hx)
  have hs := h s (List.mem_append_right _ (List.mem_singleton.2 rfl))
  rw [joined_snoc]
  refine ⟨?_, ?_⟩
  · obtain ⟨a, ha⟩ := Option.isSome_iff_exists.1 h1
    obtain ⟨b, hb⟩ := Option.isSome_iff_exists.1 hs
    rw [dec_app ha, show (32 : UInt8) :: s = [32] ++ s from rfl, dec_app dec_blank, hb]
    rfl
  · rw [texts_blank h1 hs, h2, List.flatMap_append]
    simp
theorem tok_joined {l : List (List UInt8)} (h : ∀ s ∈ l, (decR s).isSome = true) : zoneP 0 l = wordsP (joinedB l) := by
  rw [zone_zero]
  unfold wordsP
  rw [(joined_words h).2]

/-! Phrases of two texts. -/
def Two (l : List WordL) (a b : List UInt8) : Prop := ∃ p, (a, p) ∈ l ∧ (b, p + 1) ∈ l
theorem two_shift (l : List (List UInt8)) (k : Nat) (a b : List UInt8) : Two (l.zipIdx k) a b ↔ Two l.zipIdx a b := by
  have key : ∀ k', Two (l.zipIdx k') a b ↔ ∃ i, l[i]? = some a ∧ l[i + 1]? = some b := by
    intro k'
    constructor
    · rintro ⟨p, h1, h2⟩
      have e1 := idx_mem h1
      have e2 := idx_mem h2
      refine ⟨p - k', e1.2.2.1, ?_⟩
      have h3 := e2.2.2.1
      have h4 := e1.1
      simp only at h3 h4
      rwa [show p + 1 - k' = p - k' + 1 by omega] at h3
    · rintro ⟨i, h1, h2⟩
      exact ⟨k' + i, idx_in h1, by have := idx_in (k := k') h2; rwa [← Nat.add_assoc] at this⟩
  rw [key k, key 0]
theorem tok_gaps {gap : Nat} (hg : 0 < gap) (a b : List UInt8) (l : List (List UInt8)) : Two (zoneP gap l) a b ↔ ∃ s ∈ l, Two (wordsP s) a b := by
  refine list_snoc (fun l => Two (zoneP gap l) a b ↔ ∃ s ∈ l, Two (wordsP s) a b) ?_ (fun l s ih => ?_) l
  · constructor
    · rintro ⟨p, h, _⟩; cases h
    · rintro ⟨s, h, _⟩; cases h
  · have ho := (zone_ord gap l).1
    have hsh := two_shift (textsB s) (beginOf gap (zoneP gap l)) a b
    constructor
    · rintro ⟨p, h1, h2⟩
      rw [zone_snoc] at h1 h2
      rcases List.mem_append.1 h1 with h1 | h1 <;> rcases List.mem_append.1 h2 with h2 | h2
      · obtain ⟨t, ht, h⟩ := ih.1 ⟨p, h1, h2⟩
        exact ⟨t, List.mem_append_left _ ht, h⟩
      · exfalso
        have e1 := begin_above (gap := gap) ho h1
        have e2 := (idx_mem h2).1
        simp only at e1 e2
        omega
      · exfalso
        have e1 := begin_above (gap := gap) ho h2
        have e2 := (idx_mem h1).1
        simp only at e1 e2
        omega
      · exact ⟨s, List.mem_append_right _ (List.mem_singleton.2 rfl), hsh.1 ⟨p, h1, h2⟩⟩
    · rintro ⟨t, ht, h⟩
      rw [zone_snoc]
      rcases List.mem_append.1 ht with ht | ht
      · obtain ⟨p, h1, h2⟩ := ih.2 ⟨t, ht, h⟩
        exact ⟨p, List.mem_append_left _ h1, List.mem_append_left _ h2⟩
      · rw [List.mem_singleton.1 ht] at h
        obtain ⟨p, h1, h2⟩ := hsh.2 h
        exact ⟨p, List.mem_append_right _ h1, List.mem_append_right _ h2⟩

end Go.Proofs.YtbnchnbblchmnaaGreatDoor
