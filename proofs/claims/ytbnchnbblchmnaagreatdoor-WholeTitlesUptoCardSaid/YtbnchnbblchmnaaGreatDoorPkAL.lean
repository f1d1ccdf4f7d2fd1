/-
  Finding words by their texts and positions, sets of texts, phrases, as plain mathematics.
  The reference's listed, Lower, plain of fold.
  The reference's Lower.
-/
import Derived.Test.YtbnchnbblchmnaaGreatDoorPkAK
import Derived.Test.YtbnchnbblchmnaaGreatDoorPkAI
import Derived.Test.YtbnchnbblchmnaaGreatDoorPkAJ
namespace Go.Proofs.YtbnchnbblchmnaaGreatDoor

abbrev WordI := List UInt8 × Int
section
variable {α : Type} [LT α] [DecidableLT α] [DecidableEq α]
/-- An element put into an ascending list, if it is not there. -/
def putA (n : α) : List α → List α
  | [] => [n]
  | x :: l => if x < n then x :: putA n l else if x = n then x :: l else n :: x :: l
theorem put_mem {n y : α} : ∀ {l : List α}, y ∈ putA n l ↔ y = n ∨ y ∈ l
  | [] => by simp [putA]
  | x :: l => by
    rw [putA]
    split
    · rw [List.mem_cons, put_mem (l := l), List.mem_cons]
      constructor
      · rintro (h | h | h)
        · exact .inr (.inl h)
        · exact .inl h
        · exact .inr (.inr h)
      · rintro (h | h | h)
        · exact .inr (.inl h)
        · exact .inl h
        · exact .inr (.inr h)
    · split
      · rename_i e
        subst e
        simp
      · simp
theorem put_asc (htr : ∀ a b c : α, a < b → b < c → a < c) (hto : ∀ a b : α, ¬ a < b → a ≠ b → b < a) {n : α} : ∀ {l : List α}, l.Pairwise (· < ·) → (putA n l).Pairwise (· < ·)
  | [], _ => by simp [putA]
  | x :: l, h => by
    obtain ⟨h1, h2⟩ := List.pairwise_cons.1 h
    rw [putA]
    split
    · rename_i hx
      refine List.pairwise_cons.2 ⟨fun y hy => ?_, put_asc htr hto h2⟩
      rcases put_mem.1 hy with rfl | hy
      · exact hx
      · exact h1 y hy
    · rename_i hx
      split
      · exact h
      · rename_i hne
        have hnx := hto _ _ hx hne
        refine List.pairwise_cons.2 ⟨fun y hy => ?_, h⟩
        rcases List.mem_cons.1 hy with rfl | hy
        · exact hnx
        · exact htr _ _ _ hnx (h1 y hy)
/-- All of a list, each once, ascending. -/
def setA (l : List α) : List α := l.foldl (fun o x => putA x o) []
theorem set_snoc (l : List α) (x : α) : setA (l ++ [x]) = putA x (setA l) := by
  unfold setA
  rw [List.foldl_append]
  rfl
theorem set_mem {y : α} (l : List α) : y ∈ setA l ↔ y ∈ l := by
  refine list_snoc (fun l => y ∈ setA l ↔ y ∈ l) Iff.rfl (fun l x ih => ?_) l
  rw [set_snoc, put_mem, ih, List.mem_append, List.mem_singleton]
  exact or_comm
theorem set_asc (htr : ∀ a b c : α, a < b → b < c → a < c) (hto : ∀ a b : α, ¬ a < b → a ≠ b → b < a) (l : List α) : (setA l).Pairwise (· < ·) := by
  refine list_snoc (fun l => (setA l).Pairwise (· < ·)) List.Pairwise.nil (fun l x ih => ?_) l
  rw [set_snoc]
  exact put_asc htr hto ih
end
theorem bytes_tr (a b c : List UInt8) (h : a < b) (k : b < c) : a < c := List.lt_trans h k
theorem bytes_to (a b : List UInt8) (h : ¬ a < b) (hne : a ≠ b) : b < a := by
  by_cases h1 : b < a
  · exact h1
  · exact absurd (List.le_antisymm (List.not_lt.1 h1) (List.not_lt.1 h)) hne

def posOf (l : List WordI) (t : List UInt8) : List Int := (l.filter fun w => decide (w.1 = t)).map Prod.snd
def findI (l : List WordI) (t : List UInt8) : List Int := setA (posOf l t)
def setB (l : List WordI) : List (List UInt8) := setA (l.map Prod.fst)
/-- The texts ws stand behind the position p. -/
def behindB (l : List WordI) (p : Int) : Nat → List (List UInt8) → Bool
  | _, [] => true
  | k, w :: ws => decide (p + (k : Int) ≤ 9223372036854775807) && decide ((w, p + (k : Int)) ∈ l) && behindB l p (k + 1) ws
def phraseI (l : List WordI) : List (List UInt8) → List Int
  | [] => []
  | w :: ws => (findI l w).filter fun p => behindB l p 1 ws
def joinI (l : List WordI) : List UInt8 := joinG 32 (l.map Prod.fst)
theorem find_mem {l : List WordI} {t : List UInt8} {p : Int} : p ∈ findI l t ↔ (t, p) ∈ l := by
  unfold findI posOf
  rw [set_mem, List.mem_map]
  constructor
  · rintro ⟨⟨a, b⟩, h1, h2⟩
    rw [List.mem_filter] at h1
    have h3 : a = t := by simpa using h1.2
    simp only at h2
    rw [← h2, ← h3]
    exact h1.1
  · intro h
    exact ⟨(t, p), List.mem_filter.2 ⟨h, by simp⟩, rfl⟩
theorem find_asc (l : List WordI) (t : List UInt8) : (findI l t).Pairwise (· < ·) := set_asc (fun _ _ _ h k => Int.lt_trans h k) (fun a b h1 h2 => by omega) _
theorem setB_asc (l : List WordI) : (setB l).Pairwise (· < ·) := set_asc bytes_tr bytes_to _
theorem setB_mem {l : List WordI} {t : List UInt8} : t ∈ setB l ↔ ∃ p, (t, p) ∈ l := by
  unfold setB
  rw [set_mem, List.mem_map]
  constructor
  · rintro ⟨⟨a, b⟩, h1, rfl⟩; exact ⟨b, h1⟩
  · rintro ⟨p, h⟩; exact ⟨(t, p), h, rfl⟩
theorem phrase_one (l : List WordI) (t : List UInt8) : phraseI l [t] = findI l t := by
  unfold phraseI
  rw [List.filter_eq_self]
  intro p _
  rfl
theorem tok_sets (l : List WordI) : (setB l).Pairwise (· < ·) ∧ (∀ s ∈ setB l, findI l s ≠ [] ∧ phraseI l [s] = findI l s) ∧ ∀ w ∈ l, w.2 ∈ findI l w.1 := by
  refine ⟨setB_asc l, fun s hs => ⟨fun e => ?_, phrase_one l s⟩, fun w hw => find_mem.2 hw⟩
  obtain ⟨p, hp⟩ := setB_mem.1 hs
  have h1 := find_mem.2 hp
  rw [e] at h1
  cases h1

/-- Words whose positions are numbers from 0 on. -/
def castW (l : List WordL) : List WordI := l.map fun w => (w.1, (w.2 : Int))
theorem cast_mem {l : List WordL} {t : List UInt8} {p : Int} : (t, p) ∈ castW l ↔ ∃ k : Nat, p = (k : Int) ∧ (t, k) ∈ l := by
  unfold castW
  rw [List.mem_map]
  constructor
  · rintro ⟨⟨a, b⟩, h1, h2⟩
    injection h2 with e1 e2
    exact ⟨b, e2.symm, by rw [← e1]; exact h1⟩
  · rintro ⟨k, rfl, h⟩
    exact ⟨(t, k), h, rfl⟩
theorem phrase_two {l : List WordL} (hb : ∀ w ∈ l, w.2 ≤ 1000000) (a b : List UInt8) : phraseI (castW l) [a, b] ≠ [] ↔ Two l a b := by
  have hm : ∀ p, p ∈ phraseI (castW l) [a, b] ↔ (a, p) ∈ castW l ∧ p + 1 ≤ 9223372036854775807 ∧ (b, p + 1) ∈ castW l := by
    intro p
    unfold phraseI
    rw [List.mem_filter, find_mem]
    unfold behindB behindB
    simp
  constructor
  · intro h
    obtain ⟨p, hp⟩ := List.exists_mem_of_ne_nil _ h
    obtain ⟨h1, -, h3⟩ := (hm p).1 hp
    obtain ⟨k, rfl, g1⟩ := cast_mem.1 h1
    obtain ⟨j, e, g3⟩ := cast_mem.1 h3
    obtain rfl : j = k + 1 := by omega
    exact ⟨k, g1, g3⟩
  · rintro ⟨k, h1, h3⟩ e
    have h2 := (hm (k : Int)).2 ⟨cast_mem.2 ⟨k, rfl, h1⟩, by have := hb _ h1; simp only at this; omega, cast_mem.2 ⟨k + 1, by omega, h3⟩⟩
    rw [e] at h2
    cases h2
theorem join_words (s : List UInt8) : joinI (castW (wordsP s)) = nSearch s := by
  unfold joinI castW wordsP
  rw [search_join, List.map_map]
  congr 1
  have : (Prod.fst ∘ fun w : WordL => (w.1, (w.2 : Int))) = Prod.fst := rfl
  rw [this, List.zipIdx_map_fst]

end Go.Proofs.YtbnchnbblchmnaaGreatDoor

namespace Go.Proofs.YtbnchnbblchmnaaGreatDoor
open Go.RowKit

/-- The value at a character; 0 if there is none. -/
def lkI (ps : List (Nat × Nat)) (c : Int) : Int := match ps.find? fun x => (x.1 : Int) == c with | some x => (x.2 : Int) | none => 0
theorem find_take2 (p : Nat × Nat → Bool) : ∀ (l : List (Nat × Nat)) (k : Nat) (x : Nat × Nat), l[k]? = some x → (l.take k).find? p = none → (p x = true → l.find? p = some x) ∧ (p x = false → (l.take (k + 1)).find? p = none)
  | [], k, x, h, _ => by simp at h
  | y :: l, 0, x, h, _ => by
    simp only [List.getElem?_cons_zero, Option.some.injEq] at h
    subst h
    refine ⟨fun h1 => by rw [List.find?_cons, h1], fun h1 => ?_⟩
    rw [List.take_succ_cons, List.take_zero, List.find?_cons, h1]
    rfl
  | y :: l, k + 1, x, h, hn => by
    rw [List.getElem?_cons_succ] at h
    rw [List.take_succ_cons, List.find?_cons] at hn
    cases hy : p y with
    | true => rw [hy] at hn; cases hn
    | false =>
      rw [hy] at hn
      obtain ⟨h1, h2⟩ := find_take2 p l k x h hn
      refine ⟨fun h3 => by rw [List.find?_cons, hy]; exact h1 h3, fun h3 => ?_⟩
      rw [List.take_succ_cons, List.find?_cons, hy]
      exact h2 h3
theorem lk_some {ps : List (Nat × Nat)} {c : Int} {x : Nat × Nat} (h : ps.find? (fun x => (x.1 : Int) == c) = some x) : lkI ps c = (x.2 : Int) := by unfold lkI; rw [h]
theorem lk_none {ps : List (Nat × Nat)} {c : Int} (h : ps.find? (fun x => (x.1 : Int) == c) = none) : lkI ps c = 0 := by unfold lkI; rw [h]

set_option maxRecDepth 20000 in
set_option maxHeartbeats 3200000 in
theorem refListed6_any (ps : List (Nat × Nat)) (a b : List UInt8) (ha : encL (ps.map Prod.fst) = a) (hb : encL (ps.map Prod.snd) = b) (c : Int) (w : World) (h1 : ∀ x ∈ ps, okC x.1 ∧ okC x.2) (hl : ps.length ≤ 1000) :
    Calls Tryz.prog 86 #[.string (str a), .string (str b), .int .i64 c] w fun e w' => e = .returned (.int .i64 (lkI ps c)) ∧ Below w.heap.size w w' := by
  subst ha hb
  obtain ⟨N, hN⟩ : ∃ N, ps.length = N := ⟨_, rfl⟩
  rw [hN] at hl
  have HL := Lib.hid hN
  obtain ⟨R, hR⟩ : ∃ R, lkI ps c = R := ⟨_, rfl⟩
  rw [hR]
  have HR := Lib.hid hR
  have HD1 := Lib.hid fun W => decode_own (ps.map Prod.fst) N W (fun x hx => by obtain ⟨p, hp, rfl⟩ := List.mem_map.1 hx; exact (h1 p hp).1) (by rw [List.length_map]; exact hN) (by omega)
  have HD2 := Lib.hid fun W => decode_own (ps.map Prod.snd) N W (fun x hx => by obtain ⟨p, hp, rfl⟩ := List.mem_map.1 hx; exact (h1 p hp).2) (by rw [List.length_map]; exact hN) (by omega)
  clear hN hR h1
  go_enter Tryz.func86, Tryz.ntmps86
  go_wp2_with fail
  refine (HD1.out _).mono ?_
  rintro e w2 ⟨A1, n1, rfl, ha1, k2⟩
  go_wp2_with fail
  refine (HD2.out _).mono ?_
  rintro e w3 ⟨A2, n2, rfl, ha2, k3⟩
  have ha1 := ha1.up k3
  go_wp2
  go_loopw [11] (fun s wr => ∃ k : Nat, k ≤ N ∧ s = .int .i64 (k : Int) ∧ Hid ((ps.take k).find? (fun x => (x.1 : Int) == c) = none) ∧ wr = w3) (fun s _ => N - (intOf s).toNat)
  case atStart => exact ⟨0, by omega, rfl, Lib.hid rfl, rfl⟩
  case round =>
    obtain ⟨k, hk, rfl, HG, rfl⟩ := hrel
    by_cases hkl : k < N
    · have t2 : decide ((k : Int) < (N : Int)) = true := by simp; omega
      have kz : (k : Int) < (N : Int) := by omega
      obtain ⟨b1, o1, rfl, hB1, hc1⟩ := ha1.some_ (by omega)
      obtain ⟨b2, o2, rfl, hB2, hc2⟩ := ha2.some_ (by omega)
      obtain ⟨⟨x, y⟩, hx⟩ : ∃ p, ps[k]? = some p := ⟨_, List.getElem?_eq_getElem (by have := HL.out; omega)⟩
      have d1 := hc1 k x (by rw [List.getElem?_map, hx]; rfl)
      have d2 := hc2 k y (by rw [List.getElem?_map, hx]; rfl)
      simp only [nv] at d1 d2
      obtain ⟨f1, f2⟩ := find_take2 (fun x => (x.1 : Int) == c) ps k (x, y) hx HG.out
      by_cases hxc : (x : Int) = c
      · have t3 : ((x : Int) == c) = true := by rw [hxc]; simp
        have HE : Hid (R = (y : Int)) := Lib.hid (by rw [← HR.out, lk_some (f1 t3)])
        clear hc1 hc2 hx f1 f2 hxc
        go_wp2
        go_ret
        rw [HE.out]
        exact ⟨rfl, below_next k2 k3⟩
      · have t3 : ((x : Int) == c) = false := eqb_false hxc
        have HG2 := Lib.hid (f2 t3)
        clear hc1 hc2 hx f1 f2 hxc
        go_wp2
        go_roundw
        case rel => exact ⟨k + 1, by omega, by go_num, HG2, trivial⟩
        case measure => simp [intOf]; omega
    · obtain rfl : k = N := by omega
      have t2 : decide ((k : Int) < (k : Int)) = false := by simp
      have HE : Hid (R = 0) := Lib.hid (by
        have h := HG.out
        rw [List.take_of_length_le (by rw [HL.out]; omega)] at h
        rw [← HR.out, lk_none h])
      go_wp2
      go_ret
      rw [HE.out]
      exact ⟨rfl, below_next k2 k3⟩

/-! Lower. -/
def lowI (c : Int) : Int := if (65 ≤ c ∧ c ≤ 90) ∨ (913 ≤ c ∧ c ≤ 937 ∧ c ≠ 930) ∨ (1040 ≤ c ∧ c ≤ 1071) then c + 32 else if c = 962 then 963 else if lkI lowL c = 0 then c else lkI lowL c
theorem low_ok : ∀ x ∈ lowL, okC x.1 ∧ okC x.2 := by
  have h : (lowL.all fun x => hasN x.1 && hasN x.2) = true := by kernel_rfl
  intro x hx
  have := List.all_eq_true.1 h x hx
  rw [Bool.and_eq_true] at this
  exact ⟨ok_of_has this.1, ok_of_has this.2⟩
theorem listed_low (c : Int) (w : World) :
    Calls Tryz.prog 86 #[.string (str [195, 134, 195, 152, 195, 144, 195, 158, 196, 144, 196, 166, 197, 129, 197, 146, 197, 138, 197, 166, 208, 134, 208, 132, 210, 144]), .string (str [195, 166, 195, 184, 195, 176, 195, 190, 196, 145, 196, 167, 197, 130, 197, 147, 197, 139, 197, 167, 209, 150, 209, 148, 210, 145]), .int .i64 c] w fun e w' => e = .returned (.int .i64 (lkI lowL c)) ∧ Below w.heap.size w w' :=
  refListed6_any lowL _ _ (by kernel_rfl) (by kernel_rfl) c w low_ok (by decide)

end Go.Proofs.YtbnchnbblchmnaaGreatDoor

namespace Go.Proofs.YtbnchnbblchmnaaGreatDoor
open Go.RowKit

set_option maxRecDepth 20000 in
set_option maxHeartbeats 6400000 in
theorem refLower_any (c : Int) (w : World) :
    Calls Tryz.prog 83 #[.int .i64 c] w fun e w' => e = .returned (.int .i64 (lowI c)) ∧ Below w.heap.size w w' := by
  obtain ⟨R, hR⟩ : ∃ R, lowI c = R := ⟨_, rfl⟩
  rw [hR]
  unfold lowI at hR
  have HLk := Lib.hid (listed_low c w)
  obtain ⟨x, hx⟩ : ∃ x, lkI lowL c = x := ⟨_, rfl⟩
  rw [hx] at hR HLk
  clear hx
  have hc : c < 65 ∨ (65 ≤ c ∧ c ≤ 90) ∨ (91 ≤ c ∧ c ≤ 912) ∨ (913 ≤ c ∧ c ≤ 929) ∨ c = 930 ∨ (931 ≤ c ∧ c ≤ 937) ∨ (938 ≤ c ∧ c ≤ 961) ∨ c = 962 ∨ (963 ≤ c ∧ c ≤ 1039) ∨ (1040 ≤ c ∧ c ≤ 1071) ∨ 1072 ≤ c := by omega
  rcases hc with hc | hc | hc | hc | hc | hc | hc | hc | hc | hc | hc
  · have t1 : decide (65 ≤ c) = false := by simp; omega
    have t3 : decide (913 ≤ c) = false := by simp; omega
    have t6 : decide (1040 ≤ c) = false := by simp; omega
    have t8 : (c == 962) = false := eqb_false (by omega)
    rw [if_neg (by omega), if_neg (by omega)] at hR
    have HR := Lib.hid hR
    clear hR hc
    go_enter Tryz.func83, Tryz.ntmps83
    go_wp2_with fail
    refine HLk.out.mono ?_
    rintro e w1 ⟨rfl, k1⟩
    by_cases h0 : x = 0
    · have t9 : (x != 0) = false := by simpa using h0
      have HE : Hid (R = c) := Lib.hid (by rw [← HR.out, if_pos h0])
      clear h0
      go_wp2
      go_ret
      rw [HE.out]
      exact ⟨rfl, k1⟩
    · have t9 : (x != 0) = true := by simpa using h0
      have HE : Hid (R = x) := Lib.hid (by rw [← HR.out, if_neg h0])
      clear h0
      go_wp2
      go_ret
      rw [HE.out]
      exact ⟨rfl, k1⟩
  · have t1 : decide (65 ≤ c) = true := by simp; omega
    have t2 : decide (c ≤ 90) = true := by simp; omega
    rw [if_pos (by omega)] at hR
    have HE : Hid (R = c + 32) := Lib.hid hR.symm
    have hz1 : 0 ≤ c := by omega
    have hz2 : c ≤ 2000 := by omega
    clear hR HLk hc
    go_enter Tryz.func83, Tryz.ntmps83
    go_wp2
    go_ret
    rw [HE.out]
    exact ⟨rfl, Below.refl _ _⟩
  · have t1 : decide (65 ≤ c) = true := by simp; omega
    have t2 : decide (c ≤ 90) = false := by simp; omega
    have t3 : decide (913 ≤ c) = false := by simp; omega
    have t6 : decide (1040 ≤ c) = false := by simp; omega
    have t8 : (c == 962) = false := eqb_false (by omega)
    rw [if_neg (by omega), if_neg (by omega)] at hR
    have HR := Lib.hid hR
    clear hR hc
    go_enter Tryz.func83, Tryz.ntmps83
    go_wp2_with fail
    refine HLk.out.mono ?_
    rintro e w1 ⟨rfl, k1⟩
    by_cases h0 : x = 0
    · have t9 : (x != 0) = false := by simpa using h0
      have HE : Hid (R = c) := Lib.hid (by rw [← HR.out, if_pos h0])
      clear h0
      go_wp2
      go_ret
      rw [HE.out]
      exact ⟨rfl, k1⟩
    · have t9 : (x != 0) = true := by simpa using h0
      have HE : Hid (R = x) := Lib.hid (by rw [← HR.out, if_neg h0])
      clear h0
      go_wp2
      go_ret
      rw [HE.out]
      exact ⟨rfl, k1⟩
  · have t1 : decide (65 ≤ c) = true := by simp; omega
    have t2 : decide (c ≤ 90) = false := by simp; omega
    have t3 : decide (913 ≤ c) = true := by simp; omega
    have t4 : decide (c ≤ 937) = true := by simp; omega
    have t5 : (c != 930) = true := by simp; omega
    rw [if_pos (by omega)] at hR
    have HE : Hid (R = c + 32) := Lib.hid hR.symm
    have hz1 : 0 ≤ c := by omega
    have hz2 : c ≤ 2000 := by omega
    clear hR HLk hc
    go_enter Tryz.func83, Tryz.ntmps83
    go_wp2
    go_ret
    rw [HE.out]
    exact ⟨rfl, Below.refl _ _⟩
  · have t1 : decide (65 ≤ c) = true := by simp; omega
    have t2 : decide (c ≤ 90) = false := by simp; omega
    have t3 : decide (913 ≤ c) = true := by simp; omega
    have t4 : decide (c ≤ 937) = true := by simp; omega
    have t5 : (c != 930) = false := by rw [hc]; rfl
    have t6 : decide (1040 ≤ c) = false := by simp; omega
    have t8 : (c == 962) = false := eqb_false (by omega)
    rw [if_neg (by omega), if_neg (by omega)] at hR
    have HR := Lib.hid hR
    clear hR hc
    go_enter Tryz.func83, Tryz.ntmps83
    go_wp2_with fail
    refine HLk.out.mono ?_
    rintro e w1 ⟨rfl, k1⟩
    by_cases h0 : x = 0
    · have t9 : (x != 0) = false := by simpa using h0
      have HE : Hid (R = c) := Lib.hid (by rw [← HR.out, if_pos h0])
      clear h0
      go_wp2
      go_ret
      rw [HE.out]
      exact ⟨rfl, k1⟩
    · have t9 : (x != 0) = true := by simpa using h0
      have HE : Hid (R = x) := Lib.hid (by rw [← HR.out, if_neg h0])
      clear h0
      go_wp2
      go_ret
      rw [HE.out]
      exact ⟨rfl, k1⟩
  · have t1 : decide (65 ≤ c) = true := by simp; omega
    have t2 : decide (c ≤ 90) = false := by simp; omega
    have t3 : decide (913 ≤ c) = true := by simp; omega
    have t4 : decide (c ≤ 937) = true := by simp; omega
    have t5 : (c != 930) = true := by simp; omega
    rw [if_pos (by omega)] at hR
    have HE : Hid (R = c + 32) := Lib.hid hR.symm
    have hz1 : 0 ≤ c := by omega
    have hz2 : c ≤ 2000 := by omega
    clear hR HLk hc
    go_enter Tryz.func83, Tryz.ntmps83
    go_wp2
    go_ret
    rw [HE.out]
    exact ⟨rfl, Below.refl _ _⟩
  · have t1 : decide (65 ≤ c) = true := by simp; omega
    have t2 : decide (c ≤ 90) = false := by simp; omega
    have t3 : decide (913 ≤ c) = true := by simp; omega
    have t4 : decide (c ≤ 937) = false := by simp; omega
    have t6 : decide (1040 ≤ c) = false := by simp; omega
    have t8 : (c == 962) = false := eqb_false (by omega)
    rw [if_neg (by omega), if_neg (by omega)] at hR
    have HR := Lib.hid hR
    clear hR hc
    go_enter Tryz.func83, Tryz.ntmps83
    go_wp2_with fail
    refine HLk.out.mono ?_
    rintro e w1 ⟨rfl, k1⟩
    by_cases h0 : x = 0
    · have t9 : (x != 0) = false := by simpa using h0
      have HE : Hid (R = c) := Lib.hid (by rw [← HR.out, if_pos h0])
      clear h0
      go_wp2
      go_ret
      rw [HE.out]
      exact ⟨rfl, k1⟩
    · have t9 : (x != 0) = true := by simpa using h0
      have HE : Hid (R = x) := Lib.hid (by rw [← HR.out, if_neg h0])
      clear h0
      go_wp2
      go_ret
      rw [HE.out]
      exact ⟨rfl, k1⟩
  · have t1 : decide (65 ≤ c) = true := by simp; omega
    have t2 : decide (c ≤ 90) = false := by simp; omega
    have t3 : decide (913 ≤ c) = true := by simp; omega
    have t4 : decide (c ≤ 937) = false := by simp; omega
    have t6 : decide (1040 ≤ c) = false := by simp; omega
    have t8 : (c == 962) = true := eqb_true hc
    rw [if_neg (by omega), if_pos (by omega)] at hR
    have HE : Hid (R = 963) := Lib.hid hR.symm
    have hz1 : 0 ≤ c := by omega
    have hz2 : c ≤ 2000 := by omega
    clear hR HLk hc
    go_enter Tryz.func83, Tryz.ntmps83
    go_wp2
    go_ret
    rw [HE.out]
    exact ⟨rfl, Below.refl _ _⟩
  · have t1 : decide (65 ≤ c) = true := by simp; omega
    have t2 : decide (c ≤ 90) = false := by simp; omega
    have t3 : decide (913 ≤ c) = true := by simp; omega
    have t4 : decide (c ≤ 937) = false := by simp; omega
    have t6 : decide (1040 ≤ c) = false := by simp; omega
    have t8 : (c == 962) = false := eqb_false (by omega)
    rw [if_neg (by omega), if_neg (by omega)] at hR
    have HR := Lib.hid hR
    clear hR hc
    go_enter Tryz.func83, Tryz.ntmps83
    go_wp2_with fail
    refine HLk.out.mono ?_
    rintro e w1 ⟨rfl, k1⟩
    by_cases h0 : x = 0
    · have t9 : (x != 0) = false := by simpa using h0
      have HE : Hid (R = c) := Lib.hid (by rw [← HR.out, if_pos h0])
      clear h0
      go_wp2
      go_ret
      rw [HE.out]
      exact ⟨rfl, k1⟩
    · have t9 : (x != 0) = true := by simpa using h0
      have HE : Hid (R = x) := Lib.hid (by rw [← HR.out, if_neg h0])
      clear h0
      go_wp2
      go_ret
      rw [HE.out]
      exact ⟨rfl, k1⟩
  · have t1 : decide (65 ≤ c) = true := by simp; omega
    have t2 : decide (c ≤ 90) = false := by simp; omega
    have t3 : decide (913 ≤ c) = true := by simp; omega
    have t4 : decide (c ≤ 937) = false := by simp; omega
    have t6 : decide (1040 ≤ c) = true := by simp; omega
    have t7 : decide (c ≤ 1071) = true := by simp; omega
    rw [if_pos (by omega)] at hR
    have HE : Hid (R = c + 32) := Lib.hid hR.symm
    have hz1 : 0 ≤ c := by omega
    have hz2 : c ≤ 2000 := by omega
    clear hR HLk hc
    go_enter Tryz.func83, Tryz.ntmps83
    go_wp2
    go_ret
    rw [HE.out]
    exact ⟨rfl, Below.refl _ _⟩
  · have t1 : decide (65 ≤ c) = true := by simp; omega
    have t2 : decide (c ≤ 90) = false := by simp; omega
    have t3 : decide (913 ≤ c) = true := by simp; omega
    have t4 : decide (c ≤ 937) = false := by simp; omega
    have t6 : decide (1040 ≤ c) = true := by simp; omega
    have t7 : decide (c ≤ 1071) = false := by simp; omega
    have t8 : (c == 962) = false := eqb_false (by omega)
    rw [if_neg (by omega), if_neg (by omega)] at hR
    have HR := Lib.hid hR
    clear hR hc
    go_enter Tryz.func83, Tryz.ntmps83
    go_wp2_with fail
    refine HLk.out.mono ?_
    rintro e w1 ⟨rfl, k1⟩
    by_cases h0 : x = 0
    · have t9 : (x != 0) = false := by simpa using h0
      have HE : Hid (R = c) := Lib.hid (by rw [← HR.out, if_pos h0])
      clear h0
      go_wp2
      go_ret
      rw [HE.out]
      exact ⟨rfl, k1⟩
    · have t9 : (x != 0) = true := by simpa using h0
      have HE : Hid (R = x) := Lib.hid (by rw [← HR.out, if_neg h0])
      clear h0
      go_wp2
      go_ret
      rw [HE.out]
      exact ⟨rfl, k1⟩

end Go.Proofs.YtbnchnbblchmnaaGreatDoor
