/-
  Stable sorting and merging in plain mathematics.
  Where sorted parts are cut for merging; rows that are sorted in blocks.
  The program's place of a character in a string, and the character at a place.
  The program's place: where a character of at most two bytes stands.
-/
import Derived.ProofKit
import Derived.Test.YtafnjbmeponobaaGreatDoorPkAM
import Derived.Test.YtafnjbmeponobaaGreatDoorPkAO
namespace Go.Proofs.YtafnjbmeponobaaGreatDoor

section
variable (cl : Nat → Nat)
def Asc (l : List Nat) : Prop := l.Pairwise fun x y => cl x ≤ cl y
def flt (k : Nat) (l : List Nat) : List Nat := l.filter fun x => Nat.beq (cl x) k
/-- The same elements, those of one class in the same order. -/
def Stab (l m : List Nat) : Prop := ∀ k, flt cl k m = flt cl k l
/-- m is l, sorted by classes, those of one class in the same order. -/
def Srtd (l m : List Nat) : Prop := Asc cl m ∧ Stab cl l m
end

section
variable {cl : Nat → Nat}
theorem flt_app (k : Nat) (l m : List Nat) : flt cl k (l ++ m) = flt cl k l ++ flt cl k m := List.filter_append ..
theorem mem_flt {k y : Nat} {l : List Nat} : y ∈ flt cl k l ↔ y ∈ l ∧ cl y = k := by
  unfold flt
  rw [List.mem_filter, Nat.beq_eq]
theorem Stab.refl (l : List Nat) : Stab cl l l := fun _ => rfl
theorem Stab.symm {l m : List Nat} (h : Stab cl l m) : Stab cl m l := fun k => (h k).symm
theorem Stab.trans {l m n : List Nat} (h : Stab cl l m) (h2 : Stab cl m n) : Stab cl l n := fun k => (h2 k).trans (h k)
theorem Stab.app {l m l' m' : List Nat} (h : Stab cl l m) (h2 : Stab cl l' m') : Stab cl (l ++ l') (m ++ m') := fun k => by rw [flt_app, flt_app, h k, h2 k]
theorem Stab.mem {l m : List Nat} (h : Stab cl l m) {y : Nat} : y ∈ m ↔ y ∈ l := by
  constructor
  · intro hy
    have : y ∈ flt cl (cl y) m := mem_flt.2 ⟨hy, rfl⟩
    rw [h] at this
    exact (mem_flt.1 this).1
  · intro hy
    have : y ∈ flt cl (cl y) l := mem_flt.2 ⟨hy, rfl⟩
    rw [← h] at this
    exact (mem_flt.1 this).1
theorem Stab.perm {l m : List Nat} (h : Stab cl l m) : l.Perm m := by
  rw [List.perm_iff_count]
  intro y
  have e : ∀ s : List Nat, s.count y = (flt cl (cl y) s).count y := fun s => by
    unfold flt
    rw [List.count_filter]
    rw [Nat.beq_eq]
  rw [e l, e m, h]
theorem Stab.length {l m : List Nat} (h : Stab cl l m) : m.length = l.length := h.perm.length_eq.symm
theorem flt_nil {k : Nat} {l : List Nat} (h : ∀ x ∈ l, cl x ≠ k) : flt cl k l = [] := by
  unfold flt
  rw [List.filter_eq_nil_iff]
  intro x hx
  rw [Nat.beq_eq]
  exact h x hx
/-- Two parts without a class in common. -/
theorem Stab.exch {U V : List Nat} (h : ∀ u ∈ U, ∀ v ∈ V, cl v < cl u) : Stab cl (U ++ V) (V ++ U) := by
  intro k
  rw [flt_app, flt_app]
  by_cases hu : ∃ u ∈ U, cl u = k
  · obtain ⟨u, hu, rfl⟩ := hu
    rw [flt_nil (l := V) fun v hv => by have := h u hu v hv; omega]
    simp
  · rw [flt_nil (l := U) fun u hu2 e => hu ⟨u, hu2, e⟩]
    simp
theorem srt_uniq : ∀ (l m : List Nat), Asc cl l → Asc cl m → Stab cl l m → l = m
  | [], m, _, _, h => by
    cases m with
    | nil => rfl
    | cons y m => exact absurd (h.mem.1 (List.mem_cons_self ..)) (by simp)
  | x :: l, [], _, _, h => absurd (h.mem.2 (List.mem_cons_self ..)) (by simp)
  | x :: l, y :: m, ha, hb, h => by
    have hab : cl x = cl y := by
      have h1 : cl x ≤ cl y := by
        have := h.mem.1 (List.mem_cons_self (a := y))
        rcases List.mem_cons.1 this with e | e
        · rw [e]; exact Nat.le_refl _
        · exact List.rel_of_pairwise_cons ha e
      have h2 : cl y ≤ cl x := by
        have := h.mem.2 (List.mem_cons_self (a := x))
        rcases List.mem_cons.1 this with e | e
        · rw [e]; exact Nat.le_refl _
        · exact List.rel_of_pairwise_cons hb e
      omega
    have hk := h (cl x)
    have e1 : flt cl (cl x) (x :: l) = x :: flt cl (cl x) l := by
      unfold flt
      rw [List.filter_cons_of_pos (by rw [Nat.beq_eq])]
    have e2 : flt cl (cl x) (y :: m) = y :: flt cl (cl x) m := by
      unfold flt
      rw [List.filter_cons_of_pos (by rw [Nat.beq_eq]; omega)]
    rw [e1, e2] at hk
    injection hk with hxy ht
    subst hxy
    congr 1
    refine srt_uniq l m (List.Pairwise.of_cons ha) (List.Pairwise.of_cons hb) fun k => ?_
    by_cases hkc : cl y = k
    · subst hkc; exact ht
    · have := h k
      have e3 : ∀ s, flt cl k (y :: s) = flt cl k s := fun s => by
        unfold flt
        rw [List.filter_cons_of_neg (by rw [Nat.beq_eq]; exact hkc)]
      rwa [e3, e3] at this
theorem Srtd.uniq {l m n : List Nat} (h : Srtd cl l m) (h2 : Srtd cl l n) : m = n := srt_uniq m n h.1 h2.1 (h.2.symm.trans h2.2)
theorem Srtd.of_stab {l l' m : List Nat} (h : Stab cl l l') (h2 : Srtd cl l' m) : Srtd cl l m := ⟨h2.1, h.trans h2.2⟩
theorem Srtd.self {l : List Nat} (h : Asc cl l) : Srtd cl l l := ⟨h, Stab.refl l⟩
theorem Srtd.length {l m : List Nat} (h : Srtd cl l m) : m.length = l.length := h.2.length
theorem asc_app {l m : List Nat} : Asc cl (l ++ m) ↔ Asc cl l ∧ Asc cl m ∧ ∀ a ∈ l, ∀ b ∈ m, cl a ≤ cl b := List.pairwise_append
theorem asc_one (x : Nat) : Asc cl [x] := List.pairwise_singleton ..
theorem asc_nil : Asc cl [] := List.Pairwise.nil
/-- Two parts, all of the first one at most as great as all of the second one. -/
theorem Srtd.app {l m l' m' : List Nat} (h : Srtd cl l m) (h' : Srtd cl l' m') (hx : ∀ a ∈ l, ∀ b ∈ l', cl a ≤ cl b) : Srtd cl (l ++ l') (m ++ m') :=
  ⟨asc_app.2 ⟨h.1, h'.1, fun a ha b hb => hx a (h.2.mem.1 ha) b (h'.2.mem.1 hb)⟩, h.2.app h'.2⟩
/-- One element ahead of a sorted list. -/
theorem srt_left {x : Nat} {V1 V2 : List Nat} (hs : Asc cl (V1 ++ V2)) (h1 : ∀ v ∈ V1, cl v < cl x) (h2 : ∀ v ∈ V2, cl x ≤ cl v) : Srtd cl (x :: (V1 ++ V2)) (V1 ++ x :: V2) := by
  refine ⟨?_, ?_⟩
  · obtain ⟨a1, a2, a3⟩ := asc_app.1 hs
    refine asc_app.2 ⟨a1, List.pairwise_cons.2 ⟨h2, a2⟩, fun a ha b hb => ?_⟩
    rcases List.mem_cons.1 hb with rfl | hb
    · exact Nat.le_of_lt (h1 a ha)
    · exact a3 a ha b hb
  · have := (Stab.exch (cl := cl) (U := [x]) (V := V1) fun u hu v hv => by rw [List.mem_singleton] at hu; subst hu; exact h1 v hv).app (Stab.refl V2)
    simpa using this
/-- One element behind a sorted list. -/
theorem srt_right {y : Nat} {U1 U2 : List Nat} (hs : Asc cl (U1 ++ U2)) (h1 : ∀ u ∈ U1, cl u ≤ cl y) (h2 : ∀ u ∈ U2, cl y < cl u) : Srtd cl ((U1 ++ U2) ++ [y]) (U1 ++ y :: U2) := by
  refine ⟨?_, ?_⟩
  · obtain ⟨a1, a2, a3⟩ := asc_app.1 hs
    refine asc_app.2 ⟨a1, List.pairwise_cons.2 ⟨fun u hu => Nat.le_of_lt (h2 u hu), a2⟩, fun a ha b hb => ?_⟩
    rcases List.mem_cons.1 hb with rfl | hb
    · exact h1 a ha
    · exact a3 a ha b hb
  · have := (Stab.refl (cl := cl) U1).app (Stab.exch (cl := cl) (U := U2) (V := [y]) fun u hu v hv => by rw [List.mem_singleton] at hv; subst hv; exact h2 u hu)
    simpa using this
/-- Two sorted lists, cut so that the first parts are at most as great as the second ones: the parts are exchanged and merged. -/
theorem srt_merge {A1 U2 V1 V2 M1 M2 : List Nat} (hU : Asc cl (A1 ++ U2)) (hV : Asc cl (V1 ++ V2)) (h1 : ∀ u ∈ U2, ∀ v ∈ V1, cl v < cl u) (h2 : ∀ a ∈ A1, ∀ v ∈ V2, cl a ≤ cl v)
    (hm1 : Srtd cl (A1 ++ V1) M1) (hm2 : Srtd cl (U2 ++ V2) M2) : Srtd cl ((A1 ++ U2) ++ (V1 ++ V2)) (M1 ++ M2) := by
  obtain ⟨a1, a2, a3⟩ := asc_app.1 hU
  obtain ⟨b1, b2, b3⟩ := asc_app.1 hV
  have h : Srtd cl ((A1 ++ V1) ++ (U2 ++ V2)) (M1 ++ M2) := hm1.app hm2 fun a ha b hb => by
    rcases List.mem_append.1 ha with ha | ha
    · rcases List.mem_append.1 hb with hb | hb
      · exact a3 a ha b hb
      · exact h2 a ha b hb
    · rcases List.mem_append.1 hb with hb | hb
      · exact Nat.le_of_lt (h1 b hb a ha)
      · exact b3 a ha b hb
  refine Srtd.of_stab ?_ h
  have := ((Stab.refl (cl := cl) A1).app (Stab.exch h1)).app (Stab.refl V2)
  simpa using this
theorem asc_get {l : List Nat} (h : Asc cl l) {i j x y : Nat} (hi : l[i]? = some x) (hj : l[j]? = some y) (hij : i ≤ j) : cl x ≤ cl y := by
  rcases Nat.lt_or_ge i j with h2 | h2
  · obtain ⟨hil, rfl⟩ := List.getElem?_eq_some_iff.1 hi
    obtain ⟨hjl, rfl⟩ := List.getElem?_eq_some_iff.1 hj
    exact List.pairwise_iff_getElem.1 h i j hil hjl h2
  · obtain rfl : i = j := by omega
    rw [hi] at hj
    cases hj
    exact Nat.le_refl _
end

end Go.Proofs.YtafnjbmeponobaaGreatDoor

namespace Go.Proofs.YtafnjbmeponobaaGreatDoor

section
variable {cl : Nat → Nat}
theorem mem_drop_get {l : List Nat} {s u : Nat} (h : u ∈ l.drop s) : ∃ i, s ≤ i ∧ l[i]? = some u := by
  obtain ⟨i, hi⟩ := List.getElem?_of_mem h
  rw [List.getElem?_drop] at hi
  exact ⟨s + i, by omega, hi⟩
theorem mem_take_get {l : List Nat} {s u : Nat} (h : u ∈ l.take s) : ∃ i, i < s ∧ l[i]? = some u := by
  obtain ⟨i, hi⟩ := List.getElem?_of_mem h
  rw [List.getElem?_take] at hi
  split at hi
  · exact ⟨i, by assumption, hi⟩
  · cases hi
theorem get_lt {l : List Nat} {i x : Nat} (h : l[i]? = some x) : i < l.length := (List.getElem?_eq_some_iff.1 h).1
theorem get_some {l : List Nat} {i : Nat} (h : i < l.length) : ∃ x, l[i]? = some x := ⟨_, List.getElem?_eq_getElem h⟩
/-- The cut that the search finds. -/
theorem sym_cut {U V : List Nat} {h s : Nat} (hU : Asc cl U) (hV : Asc cl V) (hh : h = (U.length + V.length) / 2) (hlo : h - V.length ≤ s) (hhi1 : s ≤ h) (hhi2 : s ≤ U.length)
    (h1 : ∀ c x y, h - V.length ≤ c → c < s → U[c]? = some x → V[h - 1 - c]? = some y → cl x ≤ cl y)
    (h2 : ∀ c x y, s ≤ c → c < h → c < U.length → U[c]? = some x → V[h - 1 - c]? = some y → cl y < cl x) :
    (∀ u ∈ U.drop s, ∀ v ∈ V.take (h - s), cl v < cl u) ∧ (∀ a ∈ U.take s, ∀ v ∈ V.drop (h - s), cl a ≤ cl v) := by
  constructor
  · intro u hu v hv
    obtain ⟨i, hi, hiu⟩ := mem_drop_get hu
    obtain ⟨j, hj, hjv⟩ := mem_take_get hv
    have l1 := get_lt hiu
    have l2 := get_lt hjv
    obtain ⟨x, hx⟩ := get_some (l := U) (i := s) (by omega)
    obtain ⟨y, hy⟩ := get_some (l := V) (i := h - 1 - s) (by omega)
    have e1 := h2 s x y (Nat.le_refl _) (by omega) (by omega) hx hy
    have e2 := asc_get hV hjv hy (by omega)
    have e3 := asc_get hU hx hiu hi
    omega
  · intro u hu v hv
    obtain ⟨i, hi, hiu⟩ := mem_take_get hu
    obtain ⟨j, hj, hjv⟩ := mem_drop_get hv
    have l1 := get_lt hiu
    have l2 := get_lt hjv
    obtain ⟨x, hx⟩ := get_some (l := U) (i := s - 1) (by omega)
    obtain ⟨y, hy⟩ := get_some (l := V) (i := h - 1 - (s - 1)) (by omega)
    have e1 := h1 (s - 1) x y (by omega) (by omega) hx hy
    have e2 := asc_get hV hy hjv (by omega)
    have e3 := asc_get hU hiu hx (by omega)
    omega

/-- Sorted in blocks of s, from lo to hi. -/
def Blk (cl : Nat → Nat) (s lo hi : Nat) (X : List Nat) : Prop := ∀ i j x y, lo ≤ i → i ≤ j → j < hi → i / s = j / s → X[i]? = some x → X[j]? = some y → cl x ≤ cl y
theorem Blk.none (s lo : Nat) (X : List Nat) : Blk cl s lo lo X := fun i j _ _ h1 h2 h3 => by omega
theorem div_at {k s i : Nat} (hi : i < s) : (k * s + i) / s = k := by
  rw [Nat.mul_comm, Nat.mul_add_div (by omega), Nat.div_eq_of_lt hi, Nat.add_zero]
theorem get_left {P R : List Nat} {i : Nat} (h : i < P.length) : (P ++ R)[i]? = P[i]? := List.getElem?_append_left h
theorem get_right {P R : List Nat} {i : Nat} (h : P.length ≤ i) : (P ++ R)[i]? = R[i - P.length]? := List.getElem?_append_right h
theorem asc_of_blk {s lo hi k : Nat} {P U R : List Nat} (h : Blk cl s lo hi (P ++ (U ++ R))) (h1 : lo ≤ P.length) (h2 : P.length + U.length ≤ hi) (hk : P.length = k * s) (hs : U.length ≤ s) : Asc cl U := by
  refine List.pairwise_iff_getElem.2 fun i j hi' hj' hij => ?_
  refine h (P.length + i) (P.length + j) _ _ (by omega) (by omega) (by omega) ?_ ?_ ?_
  · rw [hk, div_at (by omega), div_at (by omega)]
  · rw [get_right (by omega), Nat.add_sub_cancel_left, get_left hi']
    exact List.getElem?_eq_getElem hi'
  · rw [get_right (by omega), Nat.add_sub_cancel_left, get_left hj']
    exact List.getElem?_eq_getElem hj'
theorem blk_step {s k : Nat} {P M Q R : List Nat} (h : Blk cl s 0 P.length (P ++ R)) (hM : Asc cl M) (hs : M.length ≤ s) (hk : P.length = k * s) : Blk cl s 0 (P.length + M.length) (P ++ (M ++ Q)) := by
  intro i j x y _ h2 h3 h4 hx hy
  by_cases hj : j < P.length
  · rw [get_left (by omega)] at hx hy
    exact h i j x y (Nat.zero_le _) h2 hj h4 (by rw [get_left (by omega)]; exact hx) (by rw [get_left (by omega)]; exact hy)
  · have e : j / s = k := by
      have : j = k * s + (j - P.length) := by omega
      rw [this, div_at (by omega)]
    have hi : P.length ≤ i := by
      have := Nat.div_mul_le_self i s
      rw [h4, e] at this
      omega
    rw [get_right (by omega), get_left (by omega)] at hx hy
    exact asc_get hM hx hy (by omega)
/-- What lies behind is as it was. -/
theorem blk_behind {s lo hi : Nat} {P U M Q : List Nat} (h : Blk cl s lo hi (P ++ (U ++ Q))) (hl : M.length = U.length) (h1 : lo ≤ P.length + U.length) : Blk cl s (P.length + M.length) hi (P ++ (M ++ Q)) := by
  intro i j x y h2 h3 h4 h5 hx hy
  refine h i j x y (by omega) h3 h4 h5 ?_ ?_
  · rw [get_right (by omega), get_right (by omega)] at hx ⊢
    rw [hl] at hx
    exact hx
  · rw [get_right (by omega), get_right (by omega)] at hy ⊢
    rw [hl] at hy
    exact hy
theorem asc_all {s : Nat} {X : List Nat} (h : Blk cl s 0 X.length X) (hs : X.length ≤ s) : Asc cl X := by
  have := asc_of_blk (P := []) (U := X) (R := []) (k := 0) (s := s) (lo := 0) (hi := X.length) (by simpa using h) (by simp) (by simp) (by simp) hs
  exact this
theorem Blk.less {s lo hi hi' : Nat} {X : List Nat} (h : Blk cl s lo hi X) (hh : hi' ≤ hi) : Blk cl s lo hi' X := fun i j x y h1 h2 h3 => h i j x y h1 h2 (by omega)
/-- The last part, no longer than one block, is sorted as it is. -/
theorem blk_tail {s k : Nat} {P U : List Nat} (h : Blk cl (2 * s) 0 P.length (P ++ U)) (h2 : Blk cl s P.length (P.length + U.length) (P ++ U)) (hk : P.length = k * (2 * s)) (hs : U.length ≤ s) : Blk cl (2 * s) 0 (P.length + U.length) (P ++ U) := by
  have hA : Asc cl U := asc_of_blk (k := k * 2) (P := P) (U := U) (R := []) (s := s) (by simpa using h2) (Nat.le_refl _) (Nat.le_refl _) (by rw [hk, Nat.mul_assoc]) hs
  have := blk_step (M := U) (Q := []) (k := k) h hA (by omega) hk
  simpa using this
theorem Blk.over {s lo hi n : Nat} {X : List Nat} (h : Blk cl s lo hi X) (hn : X.length ≤ hi) : Blk cl s lo n X := fun i j x y h1 h2 _ h4 hx hy => h i j x y h1 h2 (by have := get_lt hy; omega) h4 hx hy
end

end Go.Proofs.YtafnjbmeponobaaGreatDoor

namespace Go.Proofs.YtafnjbmeponobaaGreatDoor
open Go.RowKit

/-- How many bytes stand ahead of character k. -/
def posB (l : List Nat) (k : Nat) : Nat := (encL (l.take k)).length
theorem enc_drop (l : List Nat) (k : Nat) : (encL l).drop (posB l k) = encL (l.drop k) := by
  unfold posB
  have h : encL l = encL (l.take k) ++ encL (l.drop k) := by rw [← encL_app, List.take_append_drop]
  conv => lhs; rw [h]
  rw [List.drop_left]
theorem enc_take (l : List Nat) (k : Nat) : (encL l).take (posB l k) = encL (l.take k) := by
  unfold posB
  have h : encL l = encL (l.take k) ++ encL (l.drop k) := by rw [← encL_app, List.take_append_drop]
  conv => lhs; rw [h]
  rw [List.take_left]
theorem pos_next {l : List Nat} {k x : Nat} (h : l[k]? = some x) : posB l (k + 1) = posB l k + (encC x).length := by
  unfold posB
  rw [take_next h, encL_app, List.length_append]
  congr 1
  rw [show encL [x] = encC x ++ [] from rfl, List.append_nil]
theorem pos_le (l : List Nat) (k : Nat) : posB l k ≤ (encL l).length := by
  have h : encL l = encL (l.take k) ++ encL (l.drop k) := by rw [← encL_app, List.take_append_drop]
  rw [h, List.length_append]
  exact Nat.le_add_right _ _
theorem pos_mono {l : List Nat} {j : Nat} : ∀ {k : Nat}, j < k → k ≤ l.length → posB l j < posB l k
  | 0, h, _ => by omega
  | k + 1, h, hk => by
    obtain ⟨x, hx⟩ := get_some (l := l) (i := k) (by omega)
    have h1 := pos_next hx
    have h2 := (encC_len x).1
    by_cases hj : j = k
    · subst hj; omega
    · have := pos_mono (l := l) (j := j) (k := k) (by omega) (by omega)
      omega
theorem pos_end {l : List Nat} : posB l l.length = (encL l).length := by unfold posB; rw [List.take_length]
theorem pos_lt {l : List Nat} {k : Nat} (h : k < l.length) : posB l k < (encL l).length := by rw [← pos_end]; exact pos_mono h (Nat.le_refl _)
theorem pos_not {l : List Nat} {k : Nat} (h : ¬ k < l.length) : ¬ posB l k < (encL l).length := by
  unfold posB
  rw [List.take_of_length_le (by omega)]
  omega
theorem enc_at {l : List Nat} {k x : Nat} (h : l[k]? = some x) : (encL l).drop (posB l k) = encC x ++ encL (l.drop (k + 1)) := by
  rw [enc_drop]
  obtain ⟨h1, h2⟩ := List.getElem?_eq_some_iff.1 h
  rw [List.drop_eq_getElem_cons h1, h2]
  rfl
theorem runeAt_enc {x : Nat} {t : List UInt8} (hx : okC x) : runeAt (encC x ++ t) = (x, (encC x).length) := by
  have ha := atR_enc (c := x) hx.1 t
  have h0 : encC x ++ t ≠ [] := by
    intro e
    exact encC_ne x (List.append_eq_nil_iff.1 e).1
  have hk : kindR ((runeAt (encC x ++ t)).1 : Int) ≠ 0 := by
    intro e
    rcases rune_bad h0 e with h | h
    · rw [ha] at h
      have := (encC_len x).1
      simp only at h
      omega
    · rw [ha] at h
      exact hx.2 h
  rw [← rune_good h0 hk, ha]
theorem decode_pos {l : List Nat} {k x : Nat} (h : l[k]? = some x) (hx : okC x) : Utf8.decode (str (encL l)) (posB l k) = (x, (encC x).length) := by
  rw [decode_drop, enc_at h, runeAt_enc hx]

set_option maxRecDepth 20000 in
set_option maxHeartbeats 1600000 in
theorem runeCount_any (l : List Nat) (w : World) (hok : ∀ c ∈ l, okC c) (hl : l.length ≤ 1000000) :
    Calls Tryz.prog 131 #[.string (str (encL l))] w fun e w' => e = .returned (.int .i64 (l.length : Int)) ∧ Below w.heap.size w w' := by
  obtain ⟨s, hs⟩ : ∃ s, encL l = s := ⟨_, rfl⟩
  have hsz : (str s).size = s.length := rfl
  have HS := Lib.hid hs
  have HOK := Lib.hid hok
  rw [hs]
  obtain ⟨N, hN⟩ : ∃ N, l.length = N := ⟨_, rfl⟩
  rw [hN] at hl ⊢
  have HN := Lib.hid hN
  clear hs hok hN
  go_enter Tryz.func131, Tryz.ntmps131
  go_wp2
  go_loopw [2] (fun s2 wr => ∃ k pos : Nat, s2 = .int .i64 (k : Int) ∧ k ≤ N ∧ Hid (pos = posB l k) ∧ wr.heap[w.heap.size]? = some (.stringIter (str s) pos) ∧ Below w.heap.size w wr) (fun _ wr => s.length - wr.iterPos w.heap.size)
  case atStart => exact ⟨0, 0, rfl, Nat.zero_le _, Lib.hid rfl, World.iter_heap w (str s) 0, (Below.refl _ _).alloc (Nat.le_refl _) _⟩
  case round =>
    obtain ⟨k, pos, rfl, hk, HP, hit, hb⟩ := hrel
    by_cases hlt : k < N
    · obtain ⟨x, hx⟩ := get_some (l := l) (i := k) (by have := HN.out; omega)
      have hp : pos < s.length := by rw [HP.out, ← HS.out]; exact pos_lt (by have := HN.out; omega)
      have hcn : Utf8.decode (str s) pos = (x, (encC x).length) := by rw [HP.out, ← HS.out]; exact decode_pos hx (HOK.out x (List.mem_of_getElem? hx))
      have hnx : ∀ ty, (Instr.next (.pointer (some ⟨w.heap.size, 0, none⟩)) true ty).run Tryz.prog wr = _ := fun ty => Lib.run_next_any_at wr w.heap.size (str s) pos ty hit hp
      have hit2 := Lib.iterAt_heap wr w.heap.size (str s) pos (pos + (Utf8.decode (str s) pos).2) hit
      have hbw2 := Lib.below_iterAt hb (k := w.heap.size) (Nat.le_refl _) (str s) (pos + (Utf8.decode (str s) pos).2)
      simp only [hcn] at hnx hit2 hbw2
      have HP2 : Hid (pos + (encC x).length = posB l (k + 1)) := Lib.hid (by rw [pos_next hx, HP.out])
      have hl1 := (encC_len x).1
      have hxz : x < 65536 := (HOK.out x (List.mem_of_getElem? hx)).1
      have hcz : (x : Int) ≤ 2147483647 := by omega
      have hcz0 : (0 : Int) ≤ (x : Int) := by omega
      clear hx hcn
      go_wp2
      go_roundw
      case rel => exact ⟨k + 1, _, by go_num, by omega, HP2, hit2, hbw2⟩
      case measure =>
        rw [iterPos_at hit2, iterPos_at hit]
        omega
    · obtain rfl : k = N := by omega
      have hp : ¬ pos < s.length := by rw [HP.out, ← HS.out]; exact pos_not (by have := HN.out; omega)
      have hnx : ∀ ty, (Instr.next (.pointer (some ⟨w.heap.size, 0, none⟩)) true ty).run Tryz.prog wr = _ := fun ty => Lib.run_next_end_at wr w.heap.size (str s) pos ty hit hp
      go_wp2
      go_ret
      exact ⟨rfl, hb⟩

set_option maxRecDepth 20000 in
set_option maxHeartbeats 1600000 in
theorem prAt_any (l : List Nat) (n x : Nat) (w : World) (hok : ∀ c ∈ l, okC c) (hx : l[n]? = some x) (hl : l.length ≤ 1000000) :
    Calls Tryz.prog 126 #[.string (str (encL l)), .int .i64 (n : Int)] w fun e w' => e = .returned (.int .i64 (x : Int)) ∧ Below w.heap.size w w' := by
  obtain ⟨s, hs⟩ : ∃ s, encL l = s := ⟨_, rfl⟩
  have hsz : (str s).size = s.length := rfl
  have HS := Lib.hid hs
  have HOK := Lib.hid hok
  have HX := Lib.hid hx
  have hnl := get_lt hx
  rw [hs]
  obtain ⟨N, hN⟩ : ∃ N, l.length = N := ⟨_, rfl⟩
  rw [hN] at hl hnl
  have HN := Lib.hid hN
  clear hs hok hN hx
  go_enter Tryz.func126, Tryz.ntmps126
  go_wp2
  go_loopw [1, 6] (fun s1 _ wr => ∃ k r pos : Nat, s1 = .int .i64 (r : Int) ∧ Hid (k + r = n) ∧ k ≤ n ∧ Hid (pos = posB l k) ∧ wr.heap[w.heap.size]? = some (.stringIter (str s) pos) ∧ Below w.heap.size w wr) (fun _ _ wr => s.length - wr.iterPos w.heap.size)
  case atStart => exact ⟨0, n, 0, rfl, Lib.hid (by omega), Nat.zero_le _, Lib.hid rfl, World.iter_heap w (str s) 0, (Below.refl _ _).alloc (Nat.le_refl _) _⟩
  case round =>
    obtain ⟨k, r, pos, rfl, HR, hk, HP, hit, hb⟩ := hrel
    obtain ⟨y, hy⟩ := get_some (l := l) (i := k) (by have := HN.out; omega)
    have hp : pos < s.length := by rw [HP.out, ← HS.out]; exact pos_lt (by have := HN.out; omega)
    have hcn : Utf8.decode (str s) pos = (y, (encC y).length) := by rw [HP.out, ← HS.out]; exact decode_pos hy (HOK.out y (List.mem_of_getElem? hy))
    have hnx : ∀ ty, (Instr.next (.pointer (some ⟨w.heap.size, 0, none⟩)) true ty).run Tryz.prog wr = _ := fun ty => Lib.run_next_any_at wr w.heap.size (str s) pos ty hit hp
    have hit2 := Lib.iterAt_heap wr w.heap.size (str s) pos (pos + (Utf8.decode (str s) pos).2) hit
    have hbw2 := Lib.below_iterAt hb (k := w.heap.size) (Nat.le_refl _) (str s) (pos + (Utf8.decode (str s) pos).2)
    simp only [hcn] at hnx hit2 hbw2
    have HP2 : Hid (pos + (encC y).length = posB l (k + 1)) := Lib.hid (by rw [pos_next hy, HP.out])
    have hl1 := (encC_len y).1
    have hyz : y < 65536 := (HOK.out y (List.mem_of_getElem? hy)).1
    have hcz : (y : Int) ≤ 2147483647 := by omega
    have hcz0 : (0 : Int) ≤ (y : Int) := by omega
    by_cases hr0 : r = 0
    · have t1 : ((r : Int) == 0) = true := by rw [hr0]; rfl
      have HE : Hid (y = x) := Lib.hid (by
        have h1 := HR.out
        have h2 := HX.out
        rw [← show k = n by omega, hy] at h2
        exact Option.some.inj h2)
      clear hy hcn hr0
      go_wp2
      go_ret
      exact ⟨ret_int (by rw [HE.out]), hbw2⟩
    · have t1 : ((r : Int) == 0) = false := eqb_false (by omega)
      obtain ⟨r2, hr2⟩ : ∃ r2, r2 = r - 1 := ⟨_, rfl⟩
      have er : (r : Int) - 1 = (r2 : Int) := by omega
      have HR2 : Hid (k + 1 + r2 = n) := Lib.hid (by have := HR.out; omega)
      have hkn : k + 1 ≤ n := by have := HR.out; omega
      have hrb : r2 ≤ 1000000 := by have := HR.out; omega
      clear hy hcn hr2
      go_wp2
      go_roundw
      case rel => exact ⟨k + 1, r2, _, by go_num, HR2, hkn, HP2, hit2, hbw2⟩
      case measure =>
        rw [iterPos_at hit2, iterPos_at hit]
        omega

end Go.Proofs.YtafnjbmeponobaaGreatDoor

namespace Go.Proofs.YtafnjbmeponobaaGreatDoor
open Go.RowKit

theorem encC_one {c : Nat} (h : c < 128) : encC c = [UInt8.ofNat c] := by unfold encC; rw [if_pos h]
theorem encC_two {c : Nat} (h1 : 128 ≤ c) (h2 : c < 2048) : encC c = [UInt8.ofNat (192 + c / 64), UInt8.ofNat (128 + c % 64)] := by
  unfold encC
  rw [if_neg (by omega), if_pos h2]
theorem posB_zero (l : List Nat) : posB l 0 = 0 := rfl
theorem posB_cons (c : Nat) (l : List Nat) (k : Nat) : posB (c :: l) (k + 1) = (encC c).length + posB l k := by
  unfold posB
  rw [List.take_succ_cons]
  exact List.length_append
/-- A byte that is neither of a single byte nor one that follows begins a character. -/
theorem byte_lead : ∀ {l : List Nat} {t : Nat} {b : UInt8}, (∀ c ∈ l, c < 2048) → (encL l)[t]? = some b → 192 ≤ b.toNat → ∃ k x, l[k]? = some x ∧ t = posB l k ∧ 128 ≤ x ∧ b = UInt8.ofNat (192 + x / 64)
  | [], t, b, _, h, _ => by simp [encL] at h
  | c :: l, t, b, hl, h, hb => by
    have hc := hl c (List.mem_cons_self ..)
    have hl' : ∀ c ∈ l, c < 2048 := fun x hx => hl x (List.mem_cons_of_mem _ hx)
    by_cases h1 : c < 128
    · rw [show encL (c :: l) = encC c ++ encL l from rfl, encC_one h1] at h
      match t, h with
      | 0, h =>
        simp at h
        subst h
        rw [byte_of (by omega)] at hb
        omega
      | t + 1, h =>
        obtain ⟨k, x, e1, e2, e3, e4⟩ := byte_lead hl' (t := t) (by simpa using h) hb
        exact ⟨k + 1, x, by simpa using e1, by rw [posB_cons, encC_one h1, e2]; simp; omega, e3, e4⟩
    · rw [show encL (c :: l) = encC c ++ encL l from rfl, encC_two (by omega) hc] at h
      match t, h with
      | 0, h =>
        have h := Option.some.inj (show some (UInt8.ofNat (192 + c / 64)) = some b from h)
        exact ⟨0, c, rfl, rfl, by omega, h.symm⟩
      | 1, h =>
        have h := Option.some.inj (show some (UInt8.ofNat (128 + c % 64)) = some b from h)
        subst h
        rw [byte_of (by omega)] at hb
        omega
      | t + 2, h =>
        obtain ⟨k, x, e1, e2, e3, e4⟩ := byte_lead hl' (t := t) (by simpa using h) hb
        exact ⟨k + 1, x, by simpa using e1, by rw [posB_cons, encC_two (by omega) hc, e2]; simp; omega, e3, e4⟩
theorem byte_ascii : ∀ {l : List Nat} {t : Nat} {b : UInt8}, (∀ c ∈ l, c < 2048) → (encL l)[t]? = some b → b.toNat < 128 → ∃ k, l[k]? = some b.toNat ∧ t = posB l k
  | [], t, b, _, h, _ => by simp [encL] at h
  | c :: l, t, b, hl, h, hb => by
    have hc := hl c (List.mem_cons_self ..)
    have hl' : ∀ c ∈ l, c < 2048 := fun x hx => hl x (List.mem_cons_of_mem _ hx)
    by_cases h1 : c < 128
    · rw [show encL (c :: l) = encC c ++ encL l from rfl, encC_one h1] at h
      match t, h with
      | 0, h =>
        simp at h
        subst h
        rw [byte_of (by omega)]
        exact ⟨0, rfl, rfl⟩
      | t + 1, h =>
        obtain ⟨k, e1, e2⟩ := byte_ascii hl' (t := t) (by simpa using h) hb
        exact ⟨k + 1, by simpa using e1, by rw [posB_cons, encC_one h1, e2]; simp; omega⟩
    · rw [show encL (c :: l) = encC c ++ encL l from rfl, encC_two (by omega) hc] at h
      match t, h with
      | 0, h =>
        have h := Option.some.inj (show some (UInt8.ofNat (192 + c / 64)) = some b from h)
        subst h
        rw [byte_of (by omega)] at hb
        omega
      | 1, h =>
        have h := Option.some.inj (show some (UInt8.ofNat (128 + c % 64)) = some b from h)
        subst h
        rw [byte_of (by omega)] at hb
        omega
      | t + 2, h =>
        obtain ⟨k, e1, e2⟩ := byte_ascii hl' (t := t) (by simpa using h) hb
        exact ⟨k + 1, by simpa using e1, by rw [posB_cons, encC_two (by omega) hc, e2]; simp; omega⟩
theorem byte_at {l : List Nat} {k x i : Nat} {b : UInt8} (h : l[k]? = some x) (hb : (encC x)[i]? = some b) : (encL l)[posB l k + i]? = some b := by
  rw [← List.getElem?_drop, enc_at h, List.getElem?_append_left (get_lt' hb)]
  exact hb
theorem two_inj {x c : Nat} (h1 : x < 2048) (h2 : c < 2048) (e1 : UInt8.ofNat (192 + x / 64) = UInt8.ofNat (192 + c / 64)) (e2 : UInt8.ofNat (128 + x % 64) = UInt8.ofNat (128 + c % 64)) : x = c := by
  have a1 := congrArg UInt8.toNat e1
  have a2 := congrArg UInt8.toNat e2
  rw [byte_of (by omega), byte_of (by omega)] at a1 a2
  omega
theorem occ_char {l : List Nat} {c t : Nat} (hl : ∀ c ∈ l, c < 2048) (h2 : c < 2048) (ho : occ2 (encL l) (UInt8.ofNat (192 + c / 64)) (UInt8.ofNat (128 + c % 64)) t) : ∃ k, l[k]? = some c ∧ t = posB l k := by
  obtain ⟨k, x, e1, e2, e3, e4⟩ := byte_lead hl ho.1 (by rw [byte_of (by omega)]; omega)
  have hx := hl x (List.mem_of_getElem? e1)
  have h := byte_at (i := 1) (b := UInt8.ofNat (128 + x % 64)) e1 (by rw [encC_two e3 hx]; rfl)
  rw [← e2, ho.2] at h
  obtain rfl := two_inj hx h2 e4.symm (Option.some.inj h).symm
  exact ⟨k, e1, e2⟩
theorem char_occ {l : List Nat} {c k : Nat} (h1 : 128 ≤ c) (h2 : c < 2048) (h : l[k]? = some c) : occ2 (encL l) (UInt8.ofNat (192 + c / 64)) (UInt8.ofNat (128 + c % 64)) (posB l k) :=
  ⟨byte_at (i := 0) h (by rw [encC_two h1 h2]; rfl), byte_at (i := 1) h (by rw [encC_two h1 h2]; rfl)⟩

/-- Where c stands first in l. -/
def FirstAt (l : List Nat) (c k : Nat) : Prop := l[k]? = some c ∧ ∀ j, j < k → l[j]? ≠ some c
theorem indexRune_any (l : List Nat) (c : Nat) (w : World) (hl : ∀ c ∈ l, c < 2048) (hc : c < 2048) (hlen : (encL l).length ≤ 1000) (hfew : Few (encL l)) :
    Calls Tryz.prog 130 #[.string (str (encL l)), .int .i32 (c : Int)] w fun e w' => (∃ z : Int, e = .returned (.int .i64 z) ∧ ((z = -1 ∧ c ∉ l) ∨ ∃ k : Nat, z = (posB l k : Int) ∧ FirstAt l c k)) ∧ ∃ q, w' = w.drewN q := by
  by_cases h1 : c < 128
  · refine (indexRune_ascii (encL l) c w h1).mono ?_
    rintro e w' ⟨rfl, rfl⟩
    refine ⟨⟨_, rfl, ?_⟩, 0, rfl⟩
    have hge := Lib.indexByte_ge (encL l) (UInt8.ofNat c)
    have hat : ∀ k, l[k]? = some c → (encL l)[posB l k]? = some (UInt8.ofNat c) := fun k hk => byte_at (i := 0) hk (by rw [encC_one h1]; rfl)
    by_cases hm : Lib.indexByte (encL l) (UInt8.ofNat c) = -1
    · refine .inl ⟨hm, fun hmem => ?_⟩
      obtain ⟨k, hk⟩ := List.getElem?_of_mem hmem
      exact Lib.indexByte_none hm _ (hat k hk)
    · obtain ⟨o, ho⟩ : ∃ o : Nat, Lib.indexByte (encL l) (UInt8.ofNat c) = (o : Int) := ⟨(Lib.indexByte (encL l) (UInt8.ofNat c)).toNat, by omega⟩
      obtain ⟨g1, g2⟩ := Lib.indexByte_some ho
      obtain ⟨k, e1, e2⟩ := byte_ascii hl g1 (by rw [byte_of (by omega)]; exact h1)
      rw [byte_of (by omega)] at e1
      refine .inr ⟨k, by rw [ho, e2], e1, fun j hj hjc => ?_⟩
      exact g2 (posB l j) (by rw [e2]; exact pos_mono hj (Nat.le_of_lt (get_lt e1))) (hat j hjc)
  · refine (indexRune_two (encL l) c _ _ w (by omega) hc rfl rfl hlen hfew).mono ?_
    rintro e w' ⟨⟨z, rfl, hz⟩, hw⟩
    refine ⟨⟨z, rfl, ?_⟩, hw⟩
    rcases hz with ⟨hz, hno⟩ | ⟨t, hz, ho, hno⟩
    · refine .inl ⟨hz, fun hmem => ?_⟩
      obtain ⟨k, hk⟩ := List.getElem?_of_mem hmem
      exact hno _ (char_occ (by omega) hc hk)
    · obtain ⟨k, e1, e2⟩ := occ_char hl hc ho
      refine .inr ⟨k, by rw [hz, e2], e1, fun j hj hjc => ?_⟩
      exact hno (posB l j) (by rw [e2]; exact pos_mono hj (Nat.le_of_lt (get_lt e1))) (char_occ (by omega) hc hjc)

set_option maxRecDepth 20000 in
set_option maxHeartbeats 1600000 in
theorem prPlace_any (l : List Nat) (c : Nat) (w : World) (hok : ∀ c ∈ l, okC c) (hl : ∀ c ∈ l, c < 2048) (hc : c < 2048) (hlen : (encL l).length ≤ 1000) (hfew : Few (encL l)) :
    Calls Tryz.prog 125 #[.string (str (encL l)), .int .i64 (c : Int)] w fun e w' => (∃ z : Int, e = .returned (.int .i64 z) ∧ ((z = -1 ∧ c ∉ l) ∨ ∃ k : Nat, z = (k : Int) ∧ FirstAt l c k)) ∧ Below w.heap.size w w' := by
  have HI := Lib.hid (indexRune_any l c w hl hc hlen hfew)
  have HT := Lib.hid (fun k => enc_take l k)
  have HPl := Lib.hid (fun k => pos_le l k)
  have HRC := Lib.hid (fun (k : Nat) W (h : k < l.length) => runeCount_any (l.take k) W (fun x hx => hok x (List.mem_of_mem_take hx)) (by
    have h1 : (encL l).length ≤ 1000 := hlen
    have h2 : posB l l.length = (encL l).length := pos_end
    have h3 : ∀ n, n ≤ l.length → n ≤ posB l n := by
      intro n
      induction n with
      | zero => intro _; exact Nat.zero_le _
      | succ n ih => intro hn; have := pos_mono (l := l) (j := n) (k := n + 1) (by omega) hn; have := ih (by omega); omega
    have h4 := h3 l.length (Nat.le_refl _)
    rw [List.length_take]
    omega))
  obtain ⟨s, hs⟩ : ∃ s, encL l = s := ⟨_, rfl⟩
  rw [hs] at HI HT HPl ⊢
  have hsz : (str s).size = s.length := rfl
  clear hs hok hl hlen hfew
  go_enter Tryz.func125, Tryz.ntmps125
  go_wp2_with fail
  refine HI.out.mono ?_
  rintro e w1 ⟨⟨z, rfl, hz⟩, q, rfl⟩
  rcases hz with ⟨rfl, hno⟩ | ⟨k, rfl, hf⟩
  · have HN := Lib.hid hno
    clear hno
    go_wp2
    go_ret
    exact ⟨⟨-1, rfl, .inl ⟨rfl, HN.out⟩⟩, below_drewN (Below.refl _ _) _⟩
  · have HF := Lib.hid hf
    have hkl := get_lt hf.1
    obtain ⟨p, hp⟩ : ∃ p, posB l k = p := ⟨_, rfl⟩
    have hps : p ≤ s.length := by rw [← hp]; exact HPl.out k
    have HS : Hid (s.take p = encL (l.take k)) := Lib.hid (by rw [← hp]; exact HT.out k)
    have HSl : Hid (∀ W, (Instr.sliceAt 9 (.string (str s)) none (some (.int .i64 (p : Int))) none).run Tryz.prog W = .ok (.string (str (s.take p))) W) := Lib.hid fun W => str_head _ Tryz.underlying9 s p hps W
    have hsl := HSl.out
    rw [HS.out] at hsl
    have HC := Lib.hid (fun W => HRC.out k W hkl)
    have hll : (l.take k).length = k := by rw [List.length_take]; omega
    rw [hll] at HC
    rw [hp]
    obtain ⟨r, hr⟩ : ∃ r, str (encL (l.take k)) = r := ⟨_, rfl⟩
    rw [hr] at hsl HC
    clear hp hf hkl hll hr
    go_wp2_with fail
    refine (HC.out _).mono ?_
    rintro e w2 ⟨rfl, k2⟩
    go_wp2
    go_ret
    exact ⟨⟨(k : Int), rfl, .inr ⟨k, rfl, HF.out⟩⟩, below_next (below_drewN (Below.refl _ _) _) k2⟩

end Go.Proofs.YtafnjbmeponobaaGreatDoor
