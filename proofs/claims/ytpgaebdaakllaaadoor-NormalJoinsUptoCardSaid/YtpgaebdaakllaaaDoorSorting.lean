/-
  Stable sorting and merging in plain mathematics.
  Where sorted parts are cut for merging; rows that are sorted in blocks.
-/
import Derived.ProofKit
namespace Go.Proofs.YtpgaebdaakllaaaDoor

section
variable (cl : Nat → Nat)
def Asc (l : List Nat) : Prop := l.Pairwise fun x y => cl x ≤ cl y
def flt (k : Nat) (l : List Nat) : List Nat := l.filter fun x => Nat.beq (cl x) k
/-- The same elements, those of one class in the same order. -/
def Stab (l m : List Nat) : Prop := ∀ k, flt cl k m = flt cl k l
/-- m is l, sorted by classes, those of one class in the same order. -/
def Srtd (l m : List Nat) : Prop := Asc cl m ∧ Stab cl l m
end

section
variable {cl : Nat → Nat}
theorem flt_app (k : Nat) (l m : List Nat) : flt cl k (l ++ m) = flt cl k l ++ flt cl k m := List.filter_append ..
theorem mem_flt {k y : Nat} {l : List Nat} : y ∈ flt cl k l ↔ y ∈ l ∧ cl y = k := by
  unfold flt
  rw [List.mem_filter, Nat.beq_eq]
theorem Stab.refl (l : List Nat) : Stab cl l l := fun _ => rfl
theorem Stab.symm {l m : List Nat} (h : Stab cl l m) : Stab cl m l := fun k => (h k).symm
theorem Stab.trans {l m n : List Nat} (h : Stab cl l m) (h2 : Stab cl m n) : Stab cl l n := fun k => (h2 k).trans (h k)
theorem Stab.app {l m l' m' : List Nat} (h : Stab cl l m) (h2 : Stab cl l' m') : Stab cl (l ++ l') (m ++ m') := fun k => by rw [flt_app, flt_app, h k, h2 k]
theorem Stab.mem {l m : List Nat} (h : Stab cl l m) {y : Nat} : y ∈ m ↔ y ∈ l := by
  constructor
  · intro hy
    have : y ∈ flt cl (cl y) m := mem_flt.2 ⟨hy, rfl⟩
    rw [h] at this
    exact (mem_flt.1 this).1
  · intro hy
    have : y ∈ flt cl (cl y) l := mem_flt.2 ⟨hy, rfl⟩
    rw [← h] at this
    exact (mem_flt.1 this).1
theorem Stab.perm {l m : List Nat} (h : Stab cl l m) : l.Perm m := by
  rw [List.perm_iff_count]
  intro y
  have e : ∀ s : List Nat, s.count y = (flt cl (cl y) s).count y := fun s => by
    unfold flt
    rw [List.count_filter]
    rw [Nat.beq_eq]
  rw [e l, e m, h]
theorem Stab.length {l m : List Nat} (h : Stab cl l m) : m.length = l.length := h.perm.length_eq.symm
theorem flt_nil {k : Nat} {l : List Nat} (h : ∀ x ∈ l, cl x ≠ k) : flt cl k l = [] := by
  unfold flt
  rw [List.filter_eq_nil_iff]
  intro x hx
  rw [Nat.beq_eq]
  exact h x hx
/-- Two parts without a class in common. -/
theorem Stab.exch {U V : List Nat} (h : ∀ u ∈ U, ∀ v ∈ V, cl v < cl u) : Stab cl (U ++ V) (V ++ U) := by
  intro k
  rw [flt_app, flt_app]
  by_cases hu : ∃ u ∈ U, cl u = k
  · obtain ⟨u, hu, rfl⟩ := hu
    rw [flt_nil (l := V) fun v hv => by have := h u hu v hv; omega]
    simp
  · rw [flt_nil (l := U) fun u hu2 e => hu ⟨u, hu2, e⟩]
    simp
theorem srt_uniq : ∀ (l m : List Nat), Asc cl l → Asc cl m → Stab cl l m → l = m
  | [], m, _, _, h => by
    cases m with
    | nil => rfl
    | cons y m => exact absurd (h.mem.1 (List.mem_cons_self ..)) (by simp)
  | x :: l, [], _, _, h => absurd (h.mem.2 (List.mem_cons_self ..)) (by simp)
  | x :: l, y :: m, ha, hb, h => by
    have hab : cl x = cl y := by
      have h1 : cl x ≤ cl y := by
        have := h.mem.1 (List.mem_cons_self (a := y))
        rcases List.mem_cons.1 this with e | e
        · rw [e]; exact Nat.le_refl _
        · exact List.rel_of_pairwise_cons ha e
      have h2 : cl y ≤ cl x := by
        have := h.mem.2 (List.mem_cons_self (a := x))
        rcases List.mem_cons.1 this with e | e
        · rw [e]; exact Nat.le_refl _
        · exact List.rel_of_pairwise_cons hb e
      omega
    have hk := h (cl x)
    have e1 : flt cl (cl x) (x :: l) = x :: flt cl (cl x) l := by
      unfold flt
      rw [List.filter_cons_of_pos (by rw [Nat.beq_eq])]
    have e2 : flt cl (cl x) (y :: m) = y :: flt cl (cl x) m := by
      unfold flt
      rw [List.filter_cons_of_pos (by rw [Nat.beq_eq]; omega)]
    rw [e1, e2] at hk
    injection hk with hxy ht
    subst hxy
    congr 1
    refine srt_uniq l m (List.Pairwise.of_cons ha) (List.Pairwise.of_cons hb) fun k => ?_
    by_cases hkc : cl y = k
    · subst hkc; exact ht
    · have := h k
      have e3 : ∀ s, flt cl k (y :: s) = flt cl k s := fun s => by
        unfold flt
        rw [List.filter_cons_of_neg (by rw [Nat.beq_eq]; exact hkc)]
      rwa [e3, e3] at this
theorem Srtd.uniq {l m n : List Nat} (h : Srtd cl l m) (h2 : Srtd cl l n) : m = n := srt_uniq m n h.1 h2.1 (h.2.symm.trans h2.2)
theorem Srtd.of_stab {l l' m : List Nat} (h : Stab cl l l') (h2 : Srtd cl l' m) : Srtd cl l m := ⟨h2.1, h.trans h2.2⟩
theorem Srtd.self {l : List Nat} (h : Asc cl l) : Srtd cl l l := ⟨h, Stab.refl l⟩
theorem Srtd.length {l m : List Nat} (h : Srtd cl l m) : m.length = l.length := h.2.length
theorem asc_app {l m : List Nat} : Asc cl (l ++ m) ↔ Asc cl l ∧ Asc cl m ∧ ∀ a ∈ l, ∀ b ∈ m, cl a ≤ cl b := List.pairwise_append
theorem asc_one (x : Nat) : Asc cl [x] := List.pairwise_singleton ..
theorem asc_nil : Asc cl [] := List.Pairwise.nil
/-- Two parts, all of the first one at most as great as all of the second one. -/
theorem Srtd.app {l m l' m' : List Nat} (h : Srtd cl l m) (h' : Srtd cl l' m') (hx : ∀ a ∈ l, ∀ b ∈ l', cl a ≤ cl b) : Srtd cl (l ++ l') (m ++ m') :=
  ⟨asc_app.2 ⟨h.1, h'.1, fun a ha b hb => hx a (h.2.mem.1 ha) b (h'.2.mem.1 hb)⟩, h.2.app h'.2⟩
/-- One element ahead of a sorted list. -/
theorem srt_left {x : Nat} {V1 V2 : List Nat} (hs : Asc cl (V1 ++ V2)) (h1 : ∀ v ∈ V1, cl v < cl x) (h2 : ∀ v ∈ V2, cl x ≤ cl v) : Srtd cl (x :: (V1 ++ V2)) (V1 ++ x :: V2) := by
  refine ⟨?_, ?_⟩
  · obtain ⟨a1, a2, a3⟩ := asc_app.1 hs
    refine asc_app.2 ⟨a1, List.pairwise_cons.2 ⟨h2, a2⟩, fun a ha b hb => ?_⟩
    rcases List.mem_cons.1 hb with rfl | hb
    · exact Nat.le_of_lt (h1 a ha)
    · exact a3 a ha b hb
  · have := (Stab.exch (cl := cl) (U := [x]) (V := V1) fun u hu v hv => by rw [List.mem_singleton] at hu; subst hu; exact h1 v hv).app (Stab.refl V2)
    simpa using this
/-- One element behind a sorted list. -/
theorem srt_right {y : Nat} {U1 U2 : List Nat} (hs : Asc cl (U1 ++ U2)) (h1 : ∀ u ∈ U1, cl u ≤ cl y) (h2 : ∀ u ∈ U2, cl y < cl u) : Srtd cl ((U1 ++ U2) ++ [y]) (U1 ++ y :: U2) := by
  refine ⟨?_, ?_⟩
  · obtain ⟨a1, a2, a3⟩ := asc_app.1 hs
    refine asc_app.2 ⟨a1, List.pairwise_cons.2 ⟨fun u hu => Nat.le_of_lt (h2 u hu), a2⟩, fun a ha b hb => ?_⟩
    rcases List.mem_cons.1 hb with rfl | hb
    · exact h1 a ha
    · exact a3 a ha b hb
  · have := (Stab.refl (cl := cl) U1).app (Stab.exch (cl := cl) (U := U2) (V := [y]) fun u hu v hv => by rw [List.mem_singleton] at hv; subst hv; exact h2 u hu)
    simpa using this
/-- Two sorted lists, cut so that the first parts are at most as great as the second ones: the parts are exchanged and merged. -/
theorem srt_merge {A1 U2 V1 V2 M1 M2 : List Nat} (hU : Asc cl (A1 ++ U2)) (hV : Asc cl (V1 ++ V2)) (h1 : ∀ u ∈ U2, ∀ v ∈ V1, cl v < cl u) (h2 : ∀ a ∈ A1, ∀ v ∈ V2, cl a ≤ cl v)
    (hm1 : Srtd cl (A1 ++ V1) M1) (hm2 : Srtd cl (U2 ++ V2) M2) : Srtd cl ((A1 ++ U2) ++ (V1 ++ V2)) (M1 ++ M2) := by
  obtain ⟨a1, a2, a3⟩ := asc_app.1 hU
  obtain ⟨b1, b2, b3⟩ := asc_app.1 hV
  have h : Srtd cl ((A1 ++ V1) ++ (U2 ++ V2)) (M1 ++ M2) := hm1.app hm2 fun a ha b hb => by
    rcases List.mem_append.1 ha with ha | ha
    · rcases List.mem_append.1 hb with hb | hb
      · exact a3 a ha b hb
      · exact h2 a ha b hb
    · rcases List.mem_append.1 hb with hb | hb
      · exact Nat.le_of_lt (h1 b hb a ha)
      · exact b3 a ha b hb
  refine Srtd.of_stab ?_ h
  have := ((Stab.refl (cl := cl) A1).app (Stab.exch h1)).app (Stab.refl V2)
  simpa using this
theorem asc_get {l : List Nat} (h : Asc cl l) {i j x y : Nat} (hi : l[i]? = some x) (hj : l[j]? = some y) (hij : i ≤ j) : cl x ≤ cl y := by
  rcases Nat.lt_or_ge i j with h2 | h2
  · obtain ⟨hil, rfl⟩ := List.getElem?_eq_some_iff.1 hi
    obtain ⟨hjl, rfl⟩ := List.getElem?_eq_some_iff.1 hj
    exact List.pairwise_iff_getElem.1 h i j hil hjl h2
  · obtain rfl : i = j := by omega
    rw [hi] at hj
    cases hj
    exact Nat.le_refl _
end

end Go.Proofs.YtpgaebdaakllaaaDoor

namespace Go.Proofs.YtpgaebdaakllaaaDoor

section
variable {cl : Nat → Nat}
theorem mem_drop_get {l : List Nat} {s u : Nat} (h : u ∈ l.drop s) : ∃ i, s ≤ i ∧ l[i]? = some u := by
  obtain ⟨i, hi⟩ := List.getElem?_of_mem h
  rw [List.getElem?_drop] at hi
  exact ⟨s + i, by omega, hi⟩
theorem mem_take_get {l : List Nat} {s u : Nat} (h : u ∈ l.take s) : ∃ i, i < s ∧ l[i]? = some u := by
  obtain ⟨i, hi⟩ := List.getElem?_of_mem h
  rw [List.getElem?_take] at hi
  split at hi
  · exact ⟨i, by assumption, hi⟩
  · cases hi
theorem get_lt {l : List Nat} {i x : Nat} (h : l[i]? = some x) : i < l.length := (List.getElem?_eq_some_iff.1 h).1
theorem get_some {l : List Nat} {i : Nat} (h : i < l.length) : ∃ x, l[i]? = some x := ⟨_, List.getElem?_eq_getElem h⟩
/-- The cut that the search finds. -/
theorem sym_cut {U V : List Nat} {h s : Nat} (hU : Asc cl U) (hV : Asc cl V) (hh : h = (U.length + V.length) / 2) (hlo : h - V.length ≤ s) (hhi1 : s ≤ h) (hhi2 : s ≤ U.length)
    (h1 : ∀ c x y, h - V.length ≤ c → c < s → U[c]? = some x → V[h - 1 - c]? = some y → cl x ≤ cl y)
    (h2 : ∀ c x y, s ≤ c → c < h → c < U.length → U[c]? = some x → V[h - 1 - c]? = some y → cl y < cl x) :
    (∀ u ∈ U.drop s, ∀ v ∈ V.take (h - s), cl v < cl u) ∧ (∀ a ∈ U.take s, ∀ v ∈ V.drop (h - s), cl a ≤ cl v) := by
  constructor
  · intro u hu v hv
    obtain ⟨i, hi, hiu⟩ := mem_drop_get hu
    obtain ⟨j, hj, hjv⟩ := mem_take_get hv
    have l1 := get_lt hiu
    have l2 := get_lt hjv
    obtain ⟨x, hx⟩ := get_some (l := U) (i := s) (by omega)
    obtain ⟨y, hy⟩ := get_some (l := V) (i := h - 1 - s) (by omega)
    have e1 := h2 s x y (Nat.le_refl _) (by omega) (by omega) hx hy
    have e2 := asc_get hV hjv hy (by omega)
    have e3 := asc_get hU hx hiu hi
    omega
  · intro u hu v hv
    obtain ⟨i, hi, hiu⟩ := mem_take_get hu
    obtain ⟨j, hj, hjv⟩ := mem_drop_get hv
    have l1 := get_lt hiu
    have l2 := get_lt hjv
    obtain ⟨x, hx⟩ := get_some (l := U) (i := s - 1) (by omega)
    obtain ⟨y, hy⟩ := get_some (l := V) (i := h - 1 - (s - 1)) (by omega)
    have e1 := h1 (s - 1) x y (by omega) (by omega) hx hy
    have e2 := asc_get hV hy hjv (by omega)
    have e3 := asc_get hU hiu hx (by omega)
    omega

/-- Sorted in blocks of s, from lo to hi. -/
def Blk (cl : Nat → Nat) (s lo hi : Nat) (X : List Nat) : Prop := ∀ i j x y, lo ≤ i → i ≤ j → j < hi → i / s = j / s → X[i]? = some x → X[j]? = some y → cl x ≤ cl y
theorem Blk.none (s lo : Nat) (X : List Nat) : Blk cl s lo lo X := fun i j _ _ h1 h2 h3 => by omega
theorem div_at {k s i : Nat} (hi : i < s) : (k * s + i) / s = k := by
  rw [Nat.mul_comm, Nat.mul_add_div (by omega), Nat.div_eq_of_lt hi, Nat.add_zero]
theorem get_left {P R : List Nat} {i : Nat} (h : i < P.length) : (P ++ R)[i]? = P[i]? := List.getElem?_append_left h
theorem get_right {P R : List Nat} {i : Nat} (h : P.length ≤ i) : (P ++ R)[i]? = R[i - P.length]? := List.getElem?_append_right h
theorem asc_of_blk {s lo hi k : Nat} {P U R : List Nat} (h : Blk cl s lo hi (P ++ (U ++ R))) (h1 : lo ≤ P.length) (h2 : P.length + U.length ≤ hi) (hk : P.length = k * s) (hs : U.length ≤ s) : Asc cl U := by
  refine List.pairwise_iff_getElem.2 fun i j hi' hj' hij => ?_
  refine h (P.length + i) (P.length + j) _ _ (by omega) (by omega) (by omega) ?_ ?_ ?_
  · rw [hk, div_at (by omega), div_at (by omega)]
  · rw [get_right (by omega), Nat.add_sub_cancel_left, get_left hi']
    exact List.getElem?_eq_getElem hi'
  · rw [get_right (by omega), Nat.add_sub_cancel_left, get_left hj']
    exact List.getElem?_eq_getElem hj'
theorem blk_step {s k : Nat} {P M Q R : List Nat} (h : Blk cl s 0 P.length (P ++ R)) (hM : Asc cl M) (hs : M.length ≤ s) (hk : P.length = k * s) : Blk cl s 0 (P.length + M.length) (P ++ (M ++ Q)) := by
  intro i j x y _ h2 h3 h4 hx hy
  by_cases hj : j < P.length
  · rw [get_left (by omega)] at hx hy
    exact h i j x y (Nat.zero_le _) h2 hj h4 (by rw [get_left (by omega)]; exact hx) (by rw [get_left (by omega)]; exact hy)
  · have e : j / s = k := by
      have : j = k * s + (j - P.length) := by omega
      rw [this, div_at (by omega)]
    have hi : P.length ≤ i := by
      have := Nat.div_mul_le_self i s
      rw [h4, e] at this
      omega
    rw [get_right (by omega), get_left (by omega)] at hx hy
    exact asc_get hM hx hy (by omega)
/-- What lies behind is as it was. -/
theorem blk_behind {s lo hi : Nat} {P U M Q : List Nat} (h : Blk cl s lo hi (P ++ (U ++ Q))) (hl : M.length = U.length) (h1 : lo ≤ P.length + U.length) : Blk cl s (P.length + M.length) hi (P ++ (M ++ Q)) := by
  intro i j x y h2 h3 h4 h5 hx hy
  refine h i j x y (by omega) h3 h4 h5 ?_ ?_
  · rw [get_right (by omega), get_right (by omega)] at hx ⊢
    rw [hl] at hx
    exact hx
  · rw [get_right (by omega), get_right (by omega)] at hy ⊢
    rw [hl] at hy
    exact hy
theorem asc_all {s : Nat} {X : List Nat} (h : Blk cl s 0 X.length X) (hs : X.length ≤ s) : Asc cl X := by
  have := asc_of_blk (P := []) (U := X) (R := []) (k := 0) (s := s) (lo := 0) (hi := X.length) (by simpa using h) (by simp) (by simp) (by simp) hs
  exact this
theorem Blk.less {s lo hi hi' : Nat} {X : List Nat} (h : Blk cl s lo hi X) (hh : hi' ≤ hi) : Blk cl s lo hi' X := fun i j x y h1 h2 h3 => h i j x y h1 h2 (by omega)
/-- The last part, no longer than one block, is sorted as it is. -/
theorem blk_tail {s k : Nat} {P U : List Nat} (h : Blk cl (2 * s) 0 P.length (P ++ U)) (h2 : Blk cl s P.length (P.length + U.length) (P ++ U)) (hk : P.length = k * (2 * s)) (hs : U.length ≤ s) : Blk cl (2 * s) 0 (P.length + U.length) (P ++ U) := by
  have hA : Asc cl U := asc_of_blk (k := k * 2) (P := P) (U := U) (R := []) (s := s) (by simpa using h2) (Nat.le_refl _) (Nat.le_refl _) (by rw [hk, Nat.mul_assoc]) hs
  have := blk_step (M := U) (Q := []) (k := k) h hA (by omega) hk
  simpa using this
theorem Blk.over {s lo hi n : Nat} {X : List Nat} (h : Blk cl s lo hi X) (hn : X.length ≤ hi) : Blk cl s lo n X := fun i j x y h1 h2 _ h4 hx hy => h i j x y h1 h2 (by have := get_lt hy; omega) h4 hx hy
end

end Go.Proofs.YtpgaebdaakllaaaDoor
