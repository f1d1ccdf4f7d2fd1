/-
  The least places on diagonals.
  The program's rows: looking a place up, keeping characters, the first row.
  The program's extend and first.
-/
import Derived.Test.YtlloofmmblhnjaaPkAE
import Derived.Test.YtlloofmmblhnjaaPkAC
import Derived.BigQuiet
import Derived.Lib.MinMax
namespace Go.Proofs.Ytlloofmmblhnjaa

def never : Int := 9223372036854775807
def dz (x : Int) : Int := max x (-x)
/-- The diagonal on which both lists end. -/
def enZ (a b : List Int) : Int := (b.length : Int) - (a.length : Int)
/-- What the rests on a diagonal cost; behind the end of either list, what is left of the other. -/
def XZ (a b : List Int) (T : Nat → Nat → Nat) (d i : Int) : Int := if i ≤ (a.length : Int) ∧ i + d ≤ (b.length : Int) then (T i.toNat (i + d).toNat : Int) else dz (enZ a b - d)

theorem x_in {a b : List Int} {R : Nat} {T : Nat → Nat → Nat} {S : Nat → Nat → List OpI} (_ : Grid a b R T S) {d i : Int} {u v : Nat} (hi : i = (u : Int)) (hd : i + d = (v : Int)) (hu : u ≤ a.length) (hv : v ≤ b.length) : XZ a b T d i = (T u v : Int) := by
  unfold XZ
  rw [if_pos ⟨by omega, by omega⟩, show i.toNat = u by omega, show (i + d).toNat = v by omega]

section
variable {a b : List Int} {R : Nat} {T : Nat → Nat → Nat} {S : Nat → Nat → List OpI} (g : Grid a b R T S)
include g

theorem x_end {d i : Int} (h0 : 0 ≤ i) (h1 : 0 ≤ i + d) (h : (a.length : Int) ≤ i ∨ (b.length : Int) ≤ i + d) : XZ a b T d i = dz (enZ a b - d) := by
  by_cases hc : i ≤ (a.length : Int) ∧ i + d ≤ (b.length : Int)
  · obtain ⟨u, hu⟩ : ∃ u : Nat, i = (u : Int) := ⟨i.toNat, by omega⟩
    obtain ⟨v, hv⟩ : ∃ v : Nat, i + d = (v : Int) := ⟨(i + d).toNat, by omega⟩
    rw [x_in g hu hv (by omega) (by omega)]
    rcases h with h | h
    · obtain rfl : u = a.length := by omega
      rw [g.end1 v (by omega)]
      unfold dz enZ
      omega
    · obtain rfl : v = b.length := by omega
      rw [g.end2 u (by omega)]
      unfold dz enZ
      omega
  · unfold XZ
    rw [if_neg hc]
theorem x_low {d i : Int} (h0 : 0 ≤ i) (h1 : 0 ≤ i + d) : dz (enZ a b - d) ≤ XZ a b T d i := by
  by_cases hc : i ≤ (a.length : Int) ∧ i + d ≤ (b.length : Int)
  · obtain ⟨u, hu⟩ : ∃ u : Nat, i = (u : Int) := ⟨i.toNat, by omega⟩
    obtain ⟨v, hv⟩ : ∃ v : Nat, i + d = (v : Int) := ⟨(i + d).toNat, by omega⟩
    rw [x_in g hu hv (by omega) (by omega)]
    have := g.low1 u v (by omega) (by omega)
    have := g.low2 u v (by omega) (by omega)
    unfold dz enZ
    omega
  · unfold XZ
    rw [if_neg hc]
    exact Int.le_refl _
theorem x_mono {d i : Int} (h0 : 0 ≤ i) (h1 : 0 ≤ i + d) : XZ a b T d (i + 1) ≤ XZ a b T d i := by
  by_cases hc : i < (a.length : Int) ∧ i + d < (b.length : Int)
  · obtain ⟨u, hu⟩ : ∃ u : Nat, i = (u : Int) := ⟨i.toNat, by omega⟩
    obtain ⟨v, hv⟩ : ∃ v : Nat, i + d = (v : Int) := ⟨(i + d).toNat, by omega⟩
    rw [x_in g hu hv (by omega) (by omega), x_in g (u := u + 1) (v := v + 1) (by omega) (by omega) (by omega) (by omega)]
    have := g.mono u v (by omega) (by omega)
    omega
  · rw [x_end g (i := i + 1) (by omega) (by omega) (by omega), x_end g h0 h1 (by omega)]
    exact Int.le_refl _
theorem x_up3 (hR : R = 1) {d i : Int} (h0 : 0 ≤ i) (h1 : 0 ≤ i + d) : XZ a b T d i ≤ 1 + XZ a b T d (i + 1) := by
  by_cases hc : i < (a.length : Int) ∧ i + d < (b.length : Int)
  · obtain ⟨u, hu⟩ : ∃ u : Nat, i = (u : Int) := ⟨i.toNat, by omega⟩
    obtain ⟨v, hv⟩ : ∃ v : Nat, i + d = (v : Int) := ⟨(i + d).toNat, by omega⟩
    rw [x_in g hu hv (by omega) (by omega), x_in g (u := u + 1) (v := v + 1) (by omega) (by omega) (by omega) (by omega)]
    have := g.up3 u v (by omega) (by omega) hR
    omega
  · rw [x_end g (i := i + 1) (by omega) (by omega) (by omega), x_end g h0 h1 (by omega)]
    omega
theorem x_up1 {d i : Int} (h0 : 0 ≤ i) (h1 : 0 ≤ i + d) : XZ a b T d i ≤ 1 + XZ a b T (d - 1) (i + 1) := by
  by_cases hc : i < (a.length : Int) ∧ i + d ≤ (b.length : Int)
  · obtain ⟨u, hu⟩ : ∃ u : Nat, i = (u : Int) := ⟨i.toNat, by omega⟩
    obtain ⟨v, hv⟩ : ∃ v : Nat, i + d = (v : Int) := ⟨(i + d).toNat, by omega⟩
    rw [x_in g hu hv (by omega) (by omega), x_in g (u := u + 1) (v := v) (by omega) (by omega) (by omega) (by omega)]
    have := g.up1 u v (by omega) (by omega)
    omega
  · rw [x_end g (d := d - 1) (i := i + 1) (by omega) (by omega) (by omega), x_end g h0 h1 (by omega)]
    unfold dz
    omega
theorem x_up2 {d i : Int} (h0 : 0 ≤ i) (h1 : 0 ≤ i + d) : XZ a b T d i ≤ 1 + XZ a b T (d + 1) i := by
  by_cases hc : i ≤ (a.length : Int) ∧ i + d < (b.length : Int)
  · obtain ⟨u, hu⟩ : ∃ u : Nat, i = (u : Int) := ⟨i.toNat, by omega⟩
    obtain ⟨v, hv⟩ : ∃ v : Nat, i + d = (v : Int) := ⟨(i + d).toNat, by omega⟩
    rw [x_in g hu hv (by omega) (by omega), x_in g (d := d + 1) (u := u) (v := v + 1) (by omega) (by omega) (by omega) (by omega)]
    have := g.up2 u v (by omega) (by omega)
    omega
  · rw [x_end g (d := d + 1) (i := i) (by omega) (by omega) (by omega), x_end g h0 h1 (by omega)]
    unfold dz
    omega
theorem x_same {d : Int} {u v : Nat} {x : Int} (hd : (u : Int) + d = (v : Int)) (h1 : a[u]? = some x) (h2 : b[v]? = some x) : XZ a b T d (u : Int) = XZ a b T d ((u : Int) + 1) := by
  have := lt_at h1
  have := lt_at h2
  rw [x_in g rfl hd (by omega) (by omega), x_in g (u := u + 1) (v := v + 1) (by omega) (by omega) (by omega) (by omega), g.same u v x h1 h2]
theorem x_other {d : Int} {u v : Nat} {x y : Int} (hd : (u : Int) + d = (v : Int)) (h1 : a[u]? = some x) (h2 : b[v]? = some y) (h : x ≠ y) :
    XZ a b T d (u : Int) = 1 + XZ a b T (d - 1) ((u : Int) + 1) ∨ XZ a b T d (u : Int) = 1 + XZ a b T (d + 1) (u : Int) ∨ (R = 1 ∧ XZ a b T d (u : Int) = 1 + XZ a b T d ((u : Int) + 1)) := by
  have := lt_at h1
  have := lt_at h2
  rw [x_in g rfl hd (by omega) (by omega), x_in g (d := d - 1) (u := u + 1) (v := v) (by omega) (by omega) (by omega) (by omega),
    x_in g (d := d + 1) (u := u) (v := v + 1) rfl (by omega) (by omega) (by omega), x_in g (d := d) (u := u + 1) (v := v + 1) (by omega) (by omega) (by omega) (by omega)]
  have := g.other u v x y h1 h2 h
  omega
end

/-! The least place. -/
def leastFrom (p : Nat → Bool) : Nat → Nat → Nat
  | 0, i => i
  | f + 1, i => if p i = true then i else leastFrom p f (i + 1)
theorem up_all {p : Nat → Bool} (hm : ∀ k, p k = true → p (k + 1) = true) {i : Nat} (h : p i = true) : ∀ t, p (i + t) = true
  | 0 => h
  | t + 1 => hm _ (up_all hm h t)
theorem least_facts {p : Nat → Bool} (hm : ∀ k, p k = true → p (k + 1) = true) : ∀ (f i : Nat), p (i + f) = true → i ≤ leastFrom p f i ∧ ∀ k, i ≤ k → (p k = true ↔ leastFrom p f i ≤ k)
  | 0, i, h => by
    refine ⟨Nat.le_refl _, fun k hk => ⟨fun _ => hk, fun _ => ?_⟩⟩
    obtain ⟨t, rfl⟩ := Nat.le.dest hk
    exact up_all hm h t
  | f + 1, i, h => by
    show i ≤ (if p i = true then i else leastFrom p f (i + 1)) ∧ ∀ k, i ≤ k → (p k = true ↔ (if p i = true then i else leastFrom p f (i + 1)) ≤ k)
    by_cases hp : p i = true
    · rw [if_pos hp]
      refine ⟨Nat.le_refl _, fun k hk => ⟨fun _ => hk, fun _ => ?_⟩⟩
      obtain ⟨t, rfl⟩ := Nat.le.dest hk
      exact up_all hm hp t
    · rw [if_neg hp]
      obtain ⟨h1, h2⟩ := least_facts hm f (i + 1) (by rw [show i + 1 + f = i + (f + 1) by omega]; exact h)
      refine ⟨by omega, fun k hk => ?_⟩
      by_cases hki : k = i
      · subst hki
        exact ⟨fun h => absurd h hp, fun h => by omega⟩
      · exact h2 k (by omega)

def plc (a b : List Int) (T : Nat → Nat → Nat) (c d : Int) : Int :=
  if dz (enZ a b - d) ≤ c then max 0 (-d) + (leastFrom (fun k => decide (XZ a b T d (max 0 (-d) + (k : Int)) ≤ c)) a.length 0 : Int) else never
theorem plc_never {a b : List Int} {T : Nat → Nat → Nat} {c d : Int} (h : ¬ dz (enZ a b - d) ≤ c) : plc a b T c d = never := by unfold plc; rw [if_neg h]

section
variable {a b : List Int} {R : Nat} {T : Nat → Nat → Nat} {S : Nat → Nat → List OpI} (g : Grid a b R T S)
include g
theorem plc_facts {c d : Int} (h : dz (enZ a b - d) ≤ c) : 0 ≤ plc a b T c d ∧ 0 ≤ plc a b T c d + d ∧ ∀ i : Int, 0 ≤ i → 0 ≤ i + d → (XZ a b T d i ≤ c ↔ plc a b T c d ≤ i) := by
  unfold plc
  rw [if_pos h]
  obtain ⟨h1, h2⟩ := least_facts (p := fun k => decide (XZ a b T d (max 0 (-d) + (k : Int)) ≤ c)) (fun k hk => by
    have h3 := x_mono g (d := d) (i := max 0 (-d) + (k : Int)) (by omega) (by omega)
    rw [decide_eq_true_eq] at hk ⊢
    rw [show (max 0 (-d) + ((k + 1 : Nat) : Int)) = max 0 (-d) + (k : Int) + 1 by omega]
    omega) a.length 0 (by
      rw [decide_eq_true_eq, x_end g (by omega) (by omega) (by omega)]
      exact h)
  refine ⟨by omega, by omega, fun i hi hd => ?_⟩
  have h3 := h2 (i - max 0 (-d)).toNat (by omega)
  rw [decide_eq_true_eq, show max 0 (-d) + (((i - max 0 (-d)).toNat : Nat) : Int) = i by omega] at h3
  rw [h3]
  omega
/-- Where places end. -/
theorem plc_most {c d : Int} (h : dz (enZ a b - d) ≤ c) : (plc a b T c d ≤ (a.length : Int) ∨ plc a b T c d + d = 0) ∧ (plc a b T c d + d ≤ (b.length : Int) ∨ plc a b T c d = 0) ∧ plc a b T c d ≤ (a.length : Int) + max 0 (-d) := by
  obtain ⟨h0, h1, h2⟩ := plc_facts g h
  have h3 := (h2 (max (max 0 (-d)) (a.length : Int)) (by omega) (by omega)).1 (by rw [x_end g (by omega) (by omega) (by omega)]; exact h)
  have h4 := (h2 (max (max 0 (-d)) ((b.length : Int) - d)) (by omega) (by omega)).1 (by rw [x_end g (by omega) (by omega) (by omega)]; exact h)
  omega
end

/-- The place that is reached by keeping characters. -/
def extE (a b : List Int) (d : Int) : Nat → Nat
  | 0 => 0
  | i + 1 => if 0 < (i : Int) + 1 + d ∧ a[i]? = b[((i : Int) + d).toNat]? then extE a b d i else i + 1

section
variable {a b : List Int} {R : Nat} {T : Nat → Nat → Nat} {S : Nat → Nat → List OpI} (g : Grid a b R T S)
include g
theorem ext_facts (d : Int) : ∀ i : Nat, ((i : Int) ≤ (a.length : Int) ∨ (i : Int) + d ≤ 0) → ((i : Int) + d ≤ (b.length : Int) ∨ i = 0) → 0 ≤ (i : Int) + d →
    extE a b d i ≤ i ∧ 0 ≤ (extE a b d i : Int) + d ∧ XZ a b T d (extE a b d i : Int) = XZ a b T d (i : Int) ∧
    (extE a b d i = 0 ∨ (extE a b d i : Int) + d = 0 ∨ ∃ (u v : Nat) (x y : Int), extE a b d i = u + 1 ∧ (u : Int) + d = (v : Int) ∧ a[u]? = some x ∧ b[v]? = some y ∧ x ≠ y)
  | 0, _, _, h0 => ⟨Nat.le_refl _, h0, rfl, .inl rfl⟩
  | i + 1, h1, h2, h0 => by
    unfold extE
    by_cases hd : 0 < (i : Int) + 1 + d
    · obtain ⟨v, hv⟩ : ∃ v : Nat, (i : Int) + d = (v : Int) := ⟨((i : Int) + d).toNat, by omega⟩
      obtain ⟨x, hx⟩ := at_lt (l := a) (i := i) (by omega)
      obtain ⟨y, hy⟩ := at_lt (l := b) (i := v) (by omega)
      by_cases hxy : x = y
      · subst hxy
        rw [if_pos ⟨hd, by rw [hv, hx]; simp [hy]⟩]
        obtain ⟨e1, e2, e3, e4⟩ := ext_facts d i (by omega) (by omega) (by omega)
        refine ⟨by omega, e2, ?_, e4⟩
        rw [e3, x_same g hv hx hy]
        rfl
      · rw [if_neg (by rw [hv, hx]; simp [hy, hxy])]
        exact ⟨Nat.le_refl _, h0, rfl, .inr (.inr ⟨i, v, x, y, rfl, hv, hx, hy, hxy⟩)⟩
    · rw [if_neg (fun h => hd h.1)]
      exact ⟨Nat.le_refl _, h0, rfl, .inr (.inl (by omega))⟩

/-- The first row. -/
theorem first_plc : (extE a b (enZ a b) a.length : Int) = plc a b T 0 (enZ a b) := by
  have hz : dz (enZ a b - enZ a b) ≤ 0 := by unfold dz; omega
  have hen : (a.length : Int) + enZ a b = (b.length : Int) := by unfold enZ; omega
  obtain ⟨p0, p1, p2⟩ := plc_facts g hz
  obtain ⟨e1, e2, e3, e4⟩ := ext_facts g (enZ a b) a.length (by omega) (by omega) (by omega)
  have hX : XZ a b T (enZ a b) (a.length : Int) = dz (enZ a b - enZ a b) := x_end g (by omega) (by omega) (by omega)
  have h1 := (p2 _ (by omega) e2).1 (by rw [e3, hX]; exact hz)
  rcases e4 with h | h | ⟨u, v, x, y, h, hv, hx, hy, hne⟩
  · omega
  · omega
  · by_cases hp : plc a b T 0 (enZ a b) ≤ (u : Int)
    · have h2 := (p2 (u : Int) (by omega) (by omega)).2 hp
      have h3 := x_other g hv hx hy hne
      have h4 := x_low g (d := enZ a b - 1) (i := (u : Int) + 1) (by omega) (by omega)
      have h5 := x_low g (d := enZ a b + 1) (i := (u : Int)) (by omega) (by omega)
      have h6 := x_low g (d := enZ a b) (i := (u : Int) + 1) (by omega) (by omega)
      unfold dz at h4 h5 h6
      omega
    · omega

set_option maxHeartbeats 4000000 in
theorem next_plc {c d M : Int} (hc : 0 ≤ c) (hd : dz (enZ a b - d) ≤ c + 1) (hM : M = max (max (min (min (plc a b T c d - (R : Int)) (plc a b T c (d - 1) - 1)) (plc a b T c (d + 1))) 0) (-d))
    (ha : (a.length : Int) ≤ 1000000000000) (hb : (b.length : Int) ≤ 1000000000000) (hdb : dz d ≤ 1000000000000) :
    0 ≤ M ∧ 0 ≤ M + d ∧ (M ≤ (a.length : Int) ∨ M + d ≤ 0) ∧ (M + d ≤ (b.length : Int) ∨ M = 0) ∧ M ≤ 3000000000000 ∧ (extE a b d M.toNat : Int) = plc a b T (c + 1) d := by
  have hR : (R : Int) = 0 ∨ (R : Int) = 1 := by have := g.r; omega
  have hnv : ∀ d', dz d' ≤ 1000000000001 → ¬ dz (enZ a b - d') ≤ c → plc a b T c d' = never := fun d' _ h => plc_never h
  have hdd : -1000000000000 ≤ d ∧ d ≤ 1000000000000 := by unfold dz at hdb; omega
  have hone : dz (enZ a b - d) ≤ c ∨ dz (enZ a b - (d - 1)) ≤ c ∨ dz (enZ a b - (d + 1)) ≤ c := by
    clear hM; unfold dz at hd ⊢; omega
  have n0 : dz (enZ a b - d) ≤ c → plc a b T c d ≤ 2000000000000 := fun h => by have := (plc_most g h).2.2; clear hM; omega
  have n1 : dz (enZ a b - (d - 1)) ≤ c → plc a b T c (d - 1) ≤ 2000000000001 := fun h => by have := (plc_most g h).2.2; clear hM; omega
  have n2 : dz (enZ a b - (d + 1)) ≤ c → plc a b T c (d + 1) ≤ 2000000000001 := fun h => by have := (plc_most g h).2.2; clear hM; omega
  -- what each of the three says
  have f0 : (dz (enZ a b - d) ≤ c ∧ 0 ≤ plc a b T c d ∧ (plc a b T c d ≤ (a.length : Int) ∨ plc a b T c d + d = 0) ∧ (plc a b T c d + d ≤ (b.length : Int) ∨ plc a b T c d = 0)) ∨ plc a b T c d = never := by
    by_cases h : dz (enZ a b - d) ≤ c
    · exact .inl ⟨h, (plc_facts g h).1, (plc_most g h).1, (plc_most g h).2.1⟩
    · exact .inr (plc_never h)
  have f1 : (dz (enZ a b - (d - 1)) ≤ c ∧ 0 ≤ plc a b T c (d - 1) ∧ (plc a b T c (d - 1) ≤ (a.length : Int) ∨ plc a b T c (d - 1) + (d - 1) = 0) ∧ (plc a b T c (d - 1) + (d - 1) ≤ (b.length : Int) ∨ plc a b T c (d - 1) = 0)) ∨ plc a b T c (d - 1) = never := by
    by_cases h : dz (enZ a b - (d - 1)) ≤ c
    · exact .inl ⟨h, (plc_facts g h).1, (plc_most g h).1, (plc_most g h).2.1⟩
    · exact .inr (plc_never h)
  have f2 : (dz (enZ a b - (d + 1)) ≤ c ∧ 0 ≤ plc a b T c (d + 1) ∧ (plc a b T c (d + 1) ≤ (a.length : Int) ∨ plc a b T c (d + 1) + (d + 1) = 0) ∧ (plc a b T c (d + 1) + (d + 1) ≤ (b.length : Int) ∨ plc a b T c (d + 1) = 0)) ∨ plc a b T c (d + 1) = never := by
    by_cases h : dz (enZ a b - (d + 1)) ≤ c
    · exact .inl ⟨h, (plc_facts g h).1, (plc_most g h).1, (plc_most g h).2.1⟩
    · exact .inr (plc_never h)
  have hnev : never = 9223372036854775807 := rfl
  have hMs : 0 ≤ M ∧ 0 ≤ M + d := by
    clear f0 f1 f2 hone n0 n1 n2 hnv hd
    omega
  have hMall : M ≤ 3000000000000 ∧ (M ≤ (a.length : Int) ∨ M + d ≤ 0) ∧ (M + d ≤ (b.length : Int) ∨ M = 0) := by
    clear hnv hd
    generalize dz (enZ a b - d) = z0 at *
    generalize dz (enZ a b - (d - 1)) = z1 at *
    generalize dz (enZ a b - (d + 1)) = z2 at *
    generalize plc a b T c d = q0 at *
    generalize plc a b T c (d - 1) = q1 at *
    generalize plc a b T c (d + 1) = q2 at *
    have hla : 0 ≤ (a.length : Int) := by omega
    have hlb : 0 ≤ (b.length : Int) := by omega
    generalize (a.length : Int) = la at *
    generalize (b.length : Int) = lb at *
    generalize (R : Int) = rr at *
    have hle : M = max 0 (-d) ∨ (M ≤ q0 - rr ∧ M ≤ q1 - 1 ∧ M ≤ q2) := by clear f0 f1 f2 hone n0 n1 n2; omega
    rcases hle with hle | ⟨l0, l1, l2⟩
    · clear f0 f1 f2 hone n0 n1 n2; omega
    · clear hM
      rcases hone with h | h | h
      · have := n0 h
        rcases f0 with f0 | f0
        · clear f1 f2 n1 n2; omega
        · omega
      · have := n1 h
        rcases f1 with f1 | f1
        · clear f0 f2 n0 n2; omega
        · omega
      · have := n2 h
        rcases f2 with f2 | f2
        · clear f0 f1 n0 n1; omega
        · omega
  have hMb : 0 ≤ M ∧ 0 ≤ M + d ∧ M ≤ 3000000000000 := ⟨hMs.1, hMs.2, hMall.1⟩
  have hM1 : M ≤ (a.length : Int) ∨ M + d ≤ 0 := hMall.2.1
  have hM2 : M + d ≤ (b.length : Int) ∨ M = 0 := hMall.2.2
  refine ⟨hMb.1, hMb.2.1, hM1, hM2, hMb.2.2, ?_⟩
  clear hMs hMall n0 n1 n2
  have hM3 : (M ≤ plc a b T c d - (R : Int) ∨ M ≤ 0 ∨ M ≤ -d) ∧ (M ≤ plc a b T c (d - 1) - 1 ∨ M ≤ 0 ∨ M ≤ -d) ∧ (M ≤ plc a b T c (d + 1) ∨ M ≤ 0 ∨ M ≤ -d) := by clear f0 f1 f2 hone; omega
  have hM4 : plc a b T c d - (R : Int) ≤ M ∨ plc a b T c (d - 1) - 1 ≤ M ∨ plc a b T c (d + 1) ≤ M := by clear f0 f1 f2 hone; omega
  clear hM
  obtain ⟨m, hm⟩ : ∃ m : Nat, M = (m : Int) := ⟨M.toNat, by omega⟩
  rw [hm, Int.toNat_natCast]
  rw [hm] at hM1 hM2 hMb hM3 hM4
  obtain ⟨e1, e2, e3, e4⟩ := ext_facts g d m hM1 (by clear f0 f1 f2 hM3 hM4; omega) hMb.2.1
  obtain ⟨p0, p1, p2⟩ := plc_facts g hd
  -- the place M is good
  have hA : XZ a b T d (m : Int) ≤ c + 1 := by
    have hcase : (plc a b T c d - (R : Int) ≤ (m : Int) ∧ dz (enZ a b - d) ≤ c) ∨ (plc a b T c (d - 1) - 1 ≤ (m : Int) ∧ dz (enZ a b - (d - 1)) ≤ c) ∨ (plc a b T c (d + 1) ≤ (m : Int) ∧ dz (enZ a b - (d + 1)) ≤ c) := by
      clear hnv hd e4 p2 e3 hM3 hone hM1 hM2 e1 e2 p0 p1
      generalize dz (enZ a b - d) = z0 at *
      generalize dz (enZ a b - (d - 1)) = z1 at *
      generalize dz (enZ a b - (d + 1)) = z2 at *
      generalize plc a b T c d = q0 at *
      generalize plc a b T c (d - 1) = q1 at *
      generalize plc a b T c (d + 1) = q2 at *
      have hge : q0 - (R : Int) ≤ (m : Int) ∨ q1 - 1 ≤ (m : Int) ∨ q2 ≤ (m : Int) := hM4
      have k0 : q0 - (R : Int) ≤ (m : Int) → z0 ≤ c := fun h => by clear f1 f2 hM4; rcases f0 with f | f <;> omega
      have k1 : q1 - 1 ≤ (m : Int) → z1 ≤ c := fun h => by clear f0 f2 hM4; rcases f1 with f | f <;> omega
      have k2 : q2 ≤ (m : Int) → z2 ≤ c := fun h => by clear f0 f1 hM4; rcases f2 with f | f <;> omega
      rcases hge with h | h | h
      · exact .inl ⟨h, k0 h⟩
      · exact .inr (.inl ⟨h, k1 h⟩)
      · exact .inr (.inr ⟨h, k2 h⟩)
    clear f0 f1 f2 hone hM3 hM4
    rcases hcase with ⟨h, hh⟩ | ⟨h, hh⟩ | ⟨h, hh⟩
    · rcases hR with hR | hR
      · have h1 := ((plc_facts g hh).2.2 (m : Int) (by omega) (by omega)).2 (by omega)
        omega
      · have h1 := ((plc_facts g hh).2.2 ((m : Int) + 1) (by omega) (by omega)).2 (by omega)
        have h2 := x_up3 g (by omega) (d := d) (i := (m : Int)) (by omega) (by omega)
        omega
    · have h1 := ((plc_facts g hh).2.2 ((m : Int) + 1) (by omega) (by omega)).2 (by omega)
      have h2 := x_up1 g (d := d) (i := (m : Int)) (by omega) (by omega)
      omega
    · have h1 := ((plc_facts g hh).2.2 (m : Int) (by omega) (by omega)).2 (by omega)
      have h2 := x_up2 g (d := d) (i := (m : Int)) (by omega) (by omega)
      omega
  clear f0 f1 f2 hone hM4 hdb
  have h1 := (p2 _ (by omega) e2).1 (by rw [e3]; exact hA)
  rcases e4 with h | h | ⟨u, v, x, y, h, hv, hx, hy, hne⟩
  · omega
  · omega
  · by_cases hp : plc a b T (c + 1) d ≤ (u : Int)
    · exfalso
      have h2 := (p2 (u : Int) (by omega) (by omega)).2 hp
      have hle : extE a b d m ≤ m := e1
      rcases x_other g hv hx hy hne with h3 | h3 | ⟨hr1, h3⟩
      · have h4 := x_low g (d := d - 1) (i := (u : Int) + 1) (by omega) (by omega)
        have h5 := ((plc_facts g (c := c) (d := d - 1) (by omega)).2.2 ((u : Int) + 1) (by omega) (by omega)).1 (by omega)
        omega
      · have h4 := x_low g (d := d + 1) (i := (u : Int)) (by omega) (by omega)
        have h5 := ((plc_facts g (c := c) (d := d + 1) (by omega)).2.2 (u : Int) (by omega) (by omega)).1 (by omega)
        omega
      · have h4 := x_low g (d := d) (i := (u : Int) + 1) (by omega) (by omega)
        have h5 := ((plc_facts g (c := c) (d := d) (by omega)).2.2 ((u : Int) + 1) (by omega) (by omega)).1 (by omega)
        omega
    · omega

/-- A row tells whether its cost suffices. -/
theorem plc_zero {c : Int} (hn : (a.length : Int) ≤ 1000000000000) : 0 < plc a b T c 0 ↔ c < (T 0 0 : Int) := by
  have hx : XZ a b T 0 0 = (T 0 0 : Int) := x_in g (u := 0) (v := 0) rfl rfl (by omega) (by omega)
  by_cases h : dz (enZ a b - 0) ≤ c
  · have h1 := (plc_facts g h).2.2 0 (by omega) (by omega)
    rw [hx] at h1
    omega
  · rw [plc_never h]
    have h1 := x_low g (d := 0) (i := 0) (by omega) (by omega)
    rw [hx] at h1
    have : never = 9223372036854775807 := rfl
    omega

/-- What the program chooses. -/
def chooseE (a b : List Int) (R : Nat) (T : Nat → Nat → Nat) (c : Int) (i j : Nat) : Int :=
  if 0 < R ∧ plc a b T c ((j : Int) - (i : Int)) ≤ (i : Int) + 1 then 2 else if plc a b T c ((j : Int) - (i : Int) - 1) ≤ (i : Int) + 1 then 3 else 4

theorem choose_step {c : Nat} {i j : Nat} (hi : i ≤ a.length) (hj : j ≤ b.length) (hT : T i j = c + 1) (hne : ¬ ∃ x, a[i]? = some x ∧ b[j]? = some x) (ha : (a.length : Int) ≤ 1000000000000) :
    (chooseE a b R T c i j = 2 ∧ ∃ y, b[j]? = some y ∧ i < a.length ∧ T (i + 1) (j + 1) = c ∧ S i j = (2, y) :: S (i + 1) (j + 1)) ∨
    (chooseE a b R T c i j = 3 ∧ i < a.length ∧ T (i + 1) j = c ∧ S i j = (3, 0) :: S (i + 1) j) ∨
    (chooseE a b R T c i j = 4 ∧ ∃ y, b[j]? = some y ∧ T i (j + 1) = c ∧ S i j = (4, y) :: S i (j + 1)) := by
  have hnev : never = 9223372036854775807 := rfl
  have hR := g.r
  obtain ⟨d, hd⟩ : ∃ d : Int, (j : Int) - (i : Int) = d := ⟨_, rfl⟩
  -- what a place says
  have hrep : plc a b T c d ≤ (i : Int) + 1 ↔ XZ a b T d ((i : Int) + 1) ≤ (c : Int) := by
    by_cases h : dz (enZ a b - d) ≤ (c : Int)
    · exact ((plc_facts g h).2.2 ((i : Int) + 1) (by omega) (by omega)).symm
    · have h1 := x_low g (d := d) (i := (i : Int) + 1) (by omega) (by omega)
      rw [plc_never h]
      constructor <;> intro <;> omega
  have hdel : plc a b T c (d - 1) ≤ (i : Int) + 1 ↔ XZ a b T (d - 1) ((i : Int) + 1) ≤ (c : Int) := by
    by_cases h : dz (enZ a b - (d - 1)) ≤ (c : Int)
    · exact ((plc_facts g h).2.2 ((i : Int) + 1) (by omega) (by omega)).symm
    · have h1 := x_low g (d := d - 1) (i := (i : Int) + 1) (by omega) (by omega)
      rw [plc_never h]
      constructor <;> intro <;> omega
  have hX : XZ a b T d (i : Int) = ((c + 1 : Nat) : Int) := by rw [x_in g (u := i) (v := j) rfl (by omega) hi hj, hT]
  unfold chooseE
  rw [hd]
  by_cases h1 : 0 < R ∧ XZ a b T d ((i : Int) + 1) ≤ (c : Int)
  · rw [if_pos ⟨h1.1, hrep.2 h1.2⟩]
    refine .inl ⟨rfl, ?_⟩
    have hin : i < a.length ∧ j < b.length := by
      by_cases hin : i < a.length ∧ j < b.length
      · exact hin
      · exfalso
        have h2 := x_end g (d := d) (i := (i : Int) + 1) (by omega) (by omega) (by omega)
        have h3 := x_end g (d := d) (i := (i : Int)) (by omega) (by omega) (by omega)
        omega
    obtain ⟨x, hx⟩ := at_lt hin.1
    obtain ⟨y, hy⟩ := at_lt hin.2
    have h2 := x_in g (d := d) (i := (i : Int) + 1) (u := i + 1) (v := j + 1) (by omega) (by omega) (by omega) (by omega)
    have h3 := g.up3 i j hin.1 hin.2 (by omega)
    have h4 : T (i + 1) (j + 1) = c := by omega
    exact ⟨y, hy, hin.1, h4, g.s_repl i j x y hx hy (fun e => hne ⟨x, hx, by rw [hy, e]⟩) (by omega) (by omega)⟩
  · rw [if_neg (fun h => h1 ⟨h.1, hrep.1 h.2⟩)]
    by_cases h2 : XZ a b T (d - 1) ((i : Int) + 1) ≤ (c : Int)
    · rw [if_pos (hdel.2 h2)]
      refine .inr (.inl ⟨rfl, ?_⟩)
      have hin : i < a.length := by
        by_cases hin : i < a.length
        · exact hin
        · exfalso
          have h3 := x_end g (d := d - 1) (i := (i : Int) + 1) (by omega) (by omega) (by omega)
          have h4 := g.end1 j hj
          obtain rfl : i = a.length := by omega
          rw [h3] at h2
          unfold dz enZ at h2
          omega
      have h3 := x_in g (d := d - 1) (i := (i : Int) + 1) (u := i + 1) (v := j) (by omega) (by omega) (by omega) (by omega)
      have h4 := g.up1 i j hin hj
      have h5 : T (i + 1) j = c := by omega
      obtain ⟨x, hx⟩ := at_lt hin
      refine ⟨hin, h5, ?_⟩
      by_cases hjb : j < b.length
      · obtain ⟨y, hy⟩ := at_lt hjb
        have h6 := x_in g (d := d) (i := (i : Int) + 1) (u := i + 1) (v := j + 1) (by omega) (by omega) (by omega) (by omega)
        exact g.s_del i j x y hx hy (fun e => hne ⟨x, hx, by rw [hy, e]⟩) (fun ⟨e1, e2⟩ => h1 ⟨by omega, by omega⟩) (by omega)
      · obtain rfl : j = b.length := by omega
        exact g.s_end2 i x hx
    · rw [if_neg (fun h => h2 (hdel.1 h))]
      refine .inr (.inr ⟨rfl, ?_⟩)
      have hjb : j < b.length := by
        by_cases hjb : j < b.length
        · exact hjb
        · exfalso
          obtain rfl : j = b.length := by omega
          have h3 := g.end2 i hi
          have h4 := g.end2 (i + 1) (by omega)
          have h5 := x_in g (d := d - 1) (i := (i : Int) + 1) (u := i + 1) (v := b.length) (by omega) (by omega) (by omega) (by omega)
          omega
      obtain ⟨y, hy⟩ := at_lt hjb
      refine ⟨y, hy, ?_⟩
      by_cases hia : i < a.length
      · obtain ⟨x, hx⟩ := at_lt hia
        have hxy : x ≠ y := fun e => hne ⟨x, hx, by rw [hy, e]⟩
        have h5 := x_in g (d := d - 1) (i := (i : Int) + 1) (u := i + 1) (v := j) (by omega) (by omega) (by omega) (by omega)
        have h6 := x_in g (d := d) (i := (i : Int) + 1) (u := i + 1) (v := j + 1) (by omega) (by omega) (by omega) (by omega)
        have h7 := g.other i j x y hx hy hxy
        refine ⟨by omega, g.s_ins i j x y hx hy hxy (fun ⟨e1, e2⟩ => h1 ⟨by omega, by omega⟩) (by omega)⟩
      · obtain rfl : i = a.length := by omega
        have h3 := g.end1 j hj
        have h4 := g.end1 (j + 1) (by omega)
        exact ⟨by omega, g.s_end1 j y hy⟩
end

end Go.Proofs.Ytlloofmmblhnjaa

namespace Go.Proofs.Ytlloofmmblhnjaa
open Go.RowKit

/-- What a row answers at a diagonal. -/
def rowAt (vals : List Int) (low d : Int) : Int := if 0 ≤ d - low then (vals[(d - low).toNat]?).getD never else never

set_option maxRecDepth 20000 in
set_option maxHeartbeats 3200000 in
theorem at_any (cost low d : Int) (A : Option Addr) (n c : Nat) (vals : List Int) (w : World) (h : Arr iv w w.heap.size (.slice A n c) vals) (hn : n ≤ 1000000) (hl : -1000000 ≤ low ∧ low ≤ 1000000) (hd : -1000000 ≤ d ∧ d ≤ 1000000) :
    Calls Try.prog 43 #[.agg #[.int .i64 cost, .int .i64 low, .slice A n c], .int .i64 d] w fun e w' => e = .returned (.int .i64 (rowAt vals low d)) ∧ Below w.heap.size w w' := by
  have hlen := h.len
  have k1 : Below w.heap.size w (w.alloc (.cells #[.int .i64 cost, .int .i64 low, .slice A n c] 57)) := (Below.refl _ w).alloc (Nat.le_refl _) _
  have hbx := Box.made w 57 #[.int .i64 cost, .int .i64 low, .slice A n c]
  have b0 := hbx.cell 0
  have b1 := hbx.cell 1
  have b2 := hbx.cell 2
  simp only [List.getElem?_toArray] at b0 b1 b2
  clear hbx
  unfold rowAt
  obtain ⟨z, hz⟩ : ∃ z, d - low = z := ⟨_, rfl⟩
  rw [hz]
  have wz : IntKind.i64.wrap z = z := wraps_i64 _ (by omega) (by omega)
  by_cases h0 : 0 ≤ z
  · obtain ⟨k, rfl⟩ : ∃ k : Nat, z = (k : Int) := ⟨z.toNat, by omega⟩
    rw [if_pos h0, Int.toNat_natCast]
    by_cases hk : k < n
    · obtain ⟨v, hv⟩ : ∃ v, vals[k]? = some v := ⟨_, List.getElem?_eq_getElem (by omega)⟩
      obtain ⟨blk, off, rfl, hB, hc⟩ := h.some_ (by omega)
      have d1 : (w.alloc (.cells #[.int .i64 cost, .int .i64 low, .slice (some ⟨blk, off, none⟩) n c] 57)).cell? ⟨blk, off + k, none⟩ = some (.int .i64 v) := (k1.cell (p := ⟨blk, off + k, none⟩) hB).trans (hc k v hv)
      have zk : (k : Int) < (n : Int) := by omega
      rw [hv, Option.getD_some]
      clear hv hc h hlen
      go_enter Try.func43, Try.ntmps43
      go_wp2
      go_ret
      exact ⟨rfl, k1⟩
    · have hv : vals[k]? = none := List.getElem?_eq_none (by omega)
      have zk : ¬ (k : Int) < (n : Int) := by omega
      rw [hv, Option.getD_none]
      unfold never
      clear hv h hlen
      go_enter Try.func43, Try.ntmps43
      go_wp2
      go_ret
      exact ⟨rfl, k1⟩
  · rw [if_neg h0]
    unfold never
    clear h hlen
    go_enter Try.func43, Try.ntmps43
    go_wp2
    go_ret
    exact ⟨rfl, k1⟩

end Go.Proofs.Ytlloofmmblhnjaa

namespace Go.Proofs.Ytlloofmmblhnjaa
open Go.RowKit

theorem below_drewE {B : Nat} {a w : World} (h : Below B a w) : Below B a w.drew := ⟨h.os, h.tape, h.output, h.size, h.block⟩

set_option maxRecDepth 20000 in
set_option maxHeartbeats 6400000 in
theorem extend_any (A A' : Option Addr) (n c m c' : Nat) (R most d : Int) (i : Nat) (a b : List Int) (w : World) (h : Arr iv w w.heap.size (.slice A n c) a) (h' : Arr iv w w.heap.size (.slice A' m c') b)
    (hn : n ≤ 1000000) (hm : m ≤ 1000000) (hd : -1000000 ≤ d ∧ d ≤ 1000000) (hi : i ≤ 1000000) (h1 : (i : Int) ≤ (n : Int) ∨ (i : Int) + d ≤ 0) (h2 : (i : Int) + d ≤ (m : Int) ∨ i = 0) (h0 : 0 ≤ (i : Int) + d) :
    Calls Try.prog 45 #[.agg #[.slice A n c, .slice A' m c', .int .i64 R, .int .i64 most], .int .i64 (i : Int), .int .i64 d] w fun e w' => e = .returned (.int .i64 (extE a b d i : Int)) ∧ Below w.heap.size w w' := by
  have HL := Lib.hid h.len
  have HM := Lib.hid h'.len
  have k1 : Below w.heap.size w (w.alloc (.cells #[.slice A n c, .slice A' m c', .int .i64 R, .int .i64 most] 52)) := (Below.refl _ w).alloc (Nat.le_refl _) _
  have hbx := Box.made w 52 #[.slice A n c, .slice A' m c', .int .i64 R, .int .i64 most]
  obtain ⟨E, hE⟩ : ∃ E, extE a b d i = E := ⟨_, rfl⟩
  rw [hE]
  have HE := Lib.hid hE
  have HB0 : Hid (((i : Int) ≤ (n : Int) ∨ (i : Int) + d ≤ 0) ∧ ((i : Int) + d ≤ (m : Int) ∨ i = 0) ∧ 0 ≤ (i : Int) + d) := Lib.hid ⟨h1, h2, h0⟩
  have HA := Lib.hid h
  have HB := Lib.hid h'
  clear h h' hE h1 h2 h0
  go_enter Try.func45, Try.ntmps45
  go_wp2
  go_loopw [1] (fun v wr => ∃ k : Nat, v = .int .i64 (k : Int) ∧ k ≤ i ∧ Hid (extE a b d k = E) ∧ Hid (((k : Int) ≤ (n : Int) ∨ (k : Int) + d ≤ 0) ∧ ((k : Int) + d ≤ (m : Int) ∨ k = 0) ∧ 0 ≤ (k : Int) + d) ∧ Box wr w.heap.size 52 #[.slice A n c, .slice A' m c', .int .i64 R, .int .i64 most] ∧ Below w.heap.size w wr) (fun v _ => (intOf v).toNat)
  case atStart => exact ⟨i, rfl, Nat.le_refl _, HE, HB0, hbx, k1⟩
  case round =>
    obtain ⟨k, rfl, hki, HEk, HBk, hbx, hb⟩ := hrel
    have b0 := hbx.cell 0
    have b1 := hbx.cell 1
    simp only [List.getElem?_toArray] at b0 b1
    have zd : ∀ u v : Int, decide (u < v) = decide (v > u) := fun _ _ => rfl
    clear zd
    cases k with
    | zero =>
      have e0 : E = 0 := by rw [← HEk.out]; rfl
      subst e0
      clear HE HEk
      go_wp2_with fail
      go_quiet (fail)
      go_wp2
      go_ret
      exact ⟨rfl, below_drewN hb _⟩
    | succ q =>
      obtain ⟨z, hz⟩ : ∃ z : Int, ((q + 1 : Nat) : Int) = z := ⟨_, rfl⟩
      obtain ⟨y0, hy0⟩ : ∃ y0, z + d = y0 := ⟨_, rfl⟩
      have wy0 : IntKind.i64.wrap y0 = y0 := wraps_i64 _ (by omega) (by omega)
      have hz0 : 0 < z := by omega
      by_cases hy : 0 < y0
      · obtain ⟨v, hv⟩ : ∃ v : Nat, y0 - 1 = (v : Int) := ⟨(y0 - 1).toNat, by omega⟩
        have hq : z - 1 = (q : Int) := by omega
        obtain ⟨f1, f2, f3⟩ := HBk.out
        obtain ⟨x, hx⟩ := at_lt (l := a) (i := q) (by rw [HL.out]; omega)
        obtain ⟨y, hyv⟩ := at_lt (l := b) (i := v) (by rw [HM.out]; omega)
        obtain ⟨ba, oa, rfl, hBa, hca⟩ := HA.out.some_ (by omega)
        obtain ⟨bb, ob, rfl, hBb, hcb⟩ := HB.out.some_ (by omega)
        have d3 : wr.cell? ⟨ba, oa + q, none⟩ = some (.int .i64 x) := (hb.cell (p := ⟨ba, oa + q, none⟩) hBa).trans (hca q x hx)
        have d4 : wr.cell? ⟨bb, ob + v, none⟩ = some (.int .i64 y) := (hb.cell (p := ⟨bb, ob + v, none⟩) hBb).trans (hcb v y hyv)
        have wq : IntKind.i64.wrap (q : Int) = (q : Int) := wraps_i64 _ (by omega) (by omega)
        have wv : IntKind.i64.wrap (v : Int) = (v : Int) := wraps_i64 _ (by omega) (by omega)
        have zq : (q : Int) < (n : Int) := by omega
        have zv : (v : Int) < (m : Int) := by omega
        have zq0 : (0 : Int) ≤ (q : Int) := by omega
        have zv0 : (0 : Int) ≤ (v : Int) := by omega
        have hvq : (q : Int) + d = (v : Int) := by omega
        by_cases hxy : x = y
        · have t3 : (x == y) = true := eqE hxy
          have HEn : Hid (extE a b d q = E) := Lib.hid (by
            rw [← HEk.out]
            show _ = (if 0 < (q : Int) + 1 + d ∧ a[q]? = b[((q : Int) + d).toNat]? then extE a b d q else q + 1)
            rw [if_pos ⟨by omega, by rw [hvq, hx, hxy]; simp [hyv]⟩])
          have HBn : Hid (((q : Int) ≤ (n : Int) ∨ (q : Int) + d ≤ 0) ∧ ((q : Int) + d ≤ (m : Int) ∨ q = 0) ∧ 0 ≤ (q : Int) + d) := Lib.hid ⟨by omega, by omega, by omega⟩
          have hqi : q ≤ i := by omega
          have hms : q < z.toNat := by omega
          rw [hz]
          clear hx hyv hxy hca hcb HE HEk f1 f2 f3 hvq HBk hki hz
          go_wp2_with fail
          go_quiet (fail)
          go_wp2
          go_roundw
          case rel => exact ⟨q, rfl, hqi, HEn, HBn, hbx, below_drewN hb _⟩
          case measure => first | (simp [intOf]; done) | (simp [intOf]; omega)
        · have t3 : (x == y) = false := neE hxy
          have hE : E = q + 1 := by
            rw [← HEk.out]
            show (if 0 < (q : Int) + 1 + d ∧ a[q]? = b[((q : Int) + d).toNat]? then extE a b d q else q + 1) = _
            rw [if_neg (by rw [hvq, hx]; simp [hyv, hxy])]
          rw [hz]
          have HEz : Hid ((E : Int) = z) := Lib.hid (by omega)
          clear hx hyv hxy hca hcb HE HEk f1 f2 f3 hvq HBk hki hz hE
          go_wp2_with fail
          go_quiet (fail)
          go_wp2
          go_ret
          exact ⟨ret_int HEz.out.symm, below_drewN hb _⟩
      · have t1 : decide (0 < y0) = false := decide_eq_false hy
        have hE : E = q + 1 := by
          rw [← HEk.out]
          show (if 0 < (q : Int) + 1 + d ∧ a[q]? = b[((q : Int) + d).toNat]? then extE a b d q else q + 1) = _
          rw [if_neg (fun h => by omega)]
        rw [hz]
        have HEz : Hid ((E : Int) = z) := Lib.hid (by omega)
        clear HE HEk HBk hki hz hE
        go_wp2_with fail
        go_quiet (fail)
        go_wp2
        go_ret
        exact ⟨ret_int HEz.out.symm, below_drewN hb _⟩

end Go.Proofs.Ytlloofmmblhnjaa
