/-
  The encoding of layer 1 in plain mathematics: folded numbers, groups of seven bits, lists; decoding; both are inverse, no proper beginning of an encoding is one, and the order of encodings is that of the folded numbers.
-/
namespace Go.Proofs.Ytefonoaffeahjaa

def zig (n : Int) : Nat := if 0 ≤ n then (2 * n).toNat else (-2 * n - 1).toNat
def unzig (u : Nat) : Int := if u % 2 = 0 then ((u / 2 : Nat) : Int) else -((u / 2 : Nat) : Int) - 1

theorem unzig_zig (n : Int) : unzig (zig n) = n := by unfold unzig zig; split <;> split <;> omega
theorem zig_unzig (u : Nat) : zig (unzig u) = u := by unfold unzig zig; split <;> split <;> omega
theorem zig_lt (n : Int) (h0 : -9223372036854775808 ≤ n) (h1 : n ≤ 9223372036854775807) : zig n < 2 ^ 64 := by unfold zig; split <;> omega
theorem unzig_bd (u : Nat) (h : u < 2 ^ 64) : -9223372036854775808 ≤ unzig u ∧ unzig u ≤ 9223372036854775807 := by unfold unzig; split <;> omega

/-- The groups ahead of the last one. -/
def hi (u : Nat) : List UInt8 := if u = 0 then [] else hi (u / 128) ++ [UInt8.ofNat (u % 128 + 128)]
termination_by u
decreasing_by omega

theorem hi_zero : hi 0 = [] := by rw [hi]; simp
theorem hi_succ {u : Nat} (h : u ≠ 0) : hi u = hi (u / 128) ++ [UInt8.ofNat (u % 128 + 128)] := by rw [hi]; simp [h]

def enc (u : Nat) : List UInt8 := hi (u / 128) ++ [UInt8.ofNat (u % 128)]

def decL : Nat → List UInt8 → Option (Nat × List UInt8)
  | _, [] => none
  | u, c :: r => if 2 ^ 57 ≤ u then none else if c.toNat < 128 then some (u * 128 + c.toNat, r) else decL (u * 128 + c.toNat % 128) r

def dec : List UInt8 → Option (Nat × List UInt8)
  | [] => none
  | c :: r => if c = 128 then none else decL 0 (c :: r)

theorem toNat_of (n : Nat) (h : n < 256) : (UInt8.ofNat n).toNat = n := by simp [UInt8.toNat_ofNat']; omega

theorem decL_hi (u : Nat) : ∀ t, u < 2 ^ 64 → decL 0 (hi u ++ t) = decL u t := by
  induction u using Nat.strongRecOn with
  | ind u ih =>
    intro t hu
    by_cases h : u = 0
    · subst h; rw [hi_zero]; rfl
    · rw [hi_succ h, List.append_assoc, ih (u / 128) (by omega) _ (by omega)]
      have e := toNat_of (u % 128 + 128) (by omega)
      simp only [List.cons_append, List.nil_append, decL, e]
      rw [if_neg (by omega), if_neg (by omega)]
      congr 1
      omega

theorem hi_head (u : Nat) : u ≠ 0 → u < 2 ^ 64 → ∃ c t, hi u = c :: t ∧ 128 < c.toNat := by
  induction u using Nat.strongRecOn with
  | ind u ih =>
    intro h hu
    rw [hi_succ h]
    by_cases h2 : u / 128 = 0
    · rw [h2, hi_zero]
      exact ⟨_, [], rfl, by rw [toNat_of _ (by omega)]; omega⟩
    · obtain ⟨c, t, e, hc⟩ := ih (u / 128) (by omega) h2 (by omega)
      exact ⟨c, t ++ [UInt8.ofNat (u % 128 + 128)], by rw [e]; rfl, hc⟩

theorem dec_of_ne {c : UInt8} {r : List UInt8} (h : c ≠ 128) : dec (c :: r) = decL 0 (c :: r) := by simp [dec, h]

theorem dec_enc (u : Nat) (r : List UInt8) (hu : u < 2 ^ 64) : dec (enc u ++ r) = some (u, r) := by
  have hd : decL 0 (enc u ++ r) = some (u, r) := by
    unfold enc
    rw [List.append_assoc, decL_hi _ _ (by omega)]
    have e := toNat_of (u % 128) (by omega)
    simp only [List.cons_append, List.nil_append, decL, e]
    rw [if_neg (by omega), if_pos (by omega)]
    congr 2
    omega
  by_cases h : u / 128 = 0
  · have he : enc u = [UInt8.ofNat (u % 128)] := by unfold enc; rw [h, hi_zero]; rfl
    rw [he] at hd ⊢
    have hne : UInt8.ofNat (u % 128) ≠ 128 := by
      intro hc
      have := congrArg UInt8.toNat hc
      rw [toNat_of _ (by omega)] at this
      have e : (128 : UInt8).toNat = 128 := rfl
      omega
    rw [List.cons_append, List.nil_append] at hd ⊢
    rw [dec_of_ne hne]; exact hd
  · obtain ⟨c, t, e, hc⟩ := hi_head (u / 128) h (by omega)
    have he : enc u ++ r = c :: (t ++ [UInt8.ofNat (u % 128)] ++ r) := by unfold enc; rw [e]; rfl
    rw [he] at hd ⊢
    have hne : c ≠ 128 := by
      intro h1; subst h1
      have e : (128 : UInt8).toNat = 128 := rfl
      omega
    rw [dec_of_ne hne]; exact hd

theorem byte_of {c : UInt8} {n : Nat} (h : c.toNat = n) : UInt8.ofNat n = c := by rw [← h]; simp

theorem decL_canon : ∀ (bs : List UInt8) (v u : Nat) (r : List UInt8), (v = 0 → ∀ c t, bs = c :: t → c ≠ 128) → decL v bs = some (u, r) → hi v ++ bs = enc u ++ r ∧ u < 2 ^ 64
  | [], v, u, r, _, h => by simp [decL] at h
  | c :: bs, v, u, r, hz, h => by
    have hc := c.toNat_lt
    by_cases h57 : 2 ^ 57 ≤ v
    · rw [decL, if_pos h57] at h; cases h
    · by_cases h128 : c.toNat < 128
      · rw [decL, if_neg h57, if_pos h128] at h
        simp only [Option.some.injEq, Prod.mk.injEq] at h
        obtain ⟨rfl, rfl⟩ := h
        refine ⟨?_, by omega⟩
        unfold enc
        rw [show (v * 128 + c.toNat) / 128 = v from by omega, show (v * 128 + c.toNat) % 128 = c.toNat from by omega, byte_of rfl, List.append_assoc]
        rfl
      · rw [decL, if_neg h57, if_neg h128] at h
        have hne : v * 128 + c.toNat % 128 ≠ 0 := by
          intro h0
          have hv : v = 0 := by omega
          have := hz hv c bs rfl
          apply this
          have : c.toNat = 128 := by omega
          exact UInt8.toNat_inj.1 this
        obtain ⟨h1, h2⟩ := decL_canon bs (v * 128 + c.toNat % 128) u r (fun h0 => absurd h0 hne) h
        refine ⟨?_, h2⟩
        rw [← h1, hi_succ hne, show (v * 128 + c.toNat % 128) / 128 = v from by omega, byte_of (c := c) (by omega), List.append_assoc]
        rfl

theorem dec_canon {bs r : List UInt8} {u : Nat} (h : dec bs = some (u, r)) : bs = enc u ++ r ∧ u < 2 ^ 64 := by
  cases bs with
  | nil => simp [dec] at h
  | cons c t =>
    by_cases hc : c = 128
    · simp [dec, hc] at h
    · rw [dec_of_ne hc] at h
      have := decL_canon (c :: t) 0 u r (fun _ c' t' e => by injection e with e1 _; rw [← e1]; exact hc) h
      rwa [hi_zero, List.nil_append] at this

/-- The encoding of an integer, and its decoding within limits. -/
def encI (n : Int) : List UInt8 := enc (zig n)
def decI (lo hi : Int) (bs : List UInt8) : Option (Int × List UInt8) :=
  match dec bs with
  | some (u, r) => if lo ≤ unzig u ∧ unzig u ≤ hi then some (unzig u, r) else none
  | none => none

theorem decI_encI (lo hi n : Int) (r : List UInt8) (h0 : -9223372036854775808 ≤ n) (h1 : n ≤ 9223372036854775807) (hl : lo ≤ n) (hh : n ≤ hi) : decI lo hi (encI n ++ r) = some (n, r) := by
  unfold decI encI
  rw [dec_enc _ _ (zig_lt n h0 h1)]
  simp [unzig_zig, hl, hh]

theorem decI_canon {lo hi n : Int} {bs r : List UInt8} (h : decI lo hi bs = some (n, r)) : bs = encI n ++ r ∧ lo ≤ n ∧ n ≤ hi ∧ -9223372036854775808 ≤ n ∧ n ≤ 9223372036854775807 := by
  unfold decI at h
  cases hd : dec bs with
  | none => rw [hd] at h; cases h
  | some p =>
    obtain ⟨u, r'⟩ := p
    rw [hd] at h
    simp only at h
    split at h
    · rename_i hb
      simp only [Option.some.injEq, Prod.mk.injEq] at h
      obtain ⟨rfl, rfl⟩ := h
      obtain ⟨h1, h2⟩ := dec_canon hd
      have hb2 := unzig_bd u h2
      exact ⟨by unfold encI; rw [zig_unzig]; exact h1, hb.1, hb.2, hb2.1, hb2.2⟩
    · cases h

def encT (s : List UInt8) : List UInt8 := encI s.length ++ s
def decT (mx : Int) (bs : List UInt8) : Option (List UInt8 × List UInt8) :=
  match decI 0 mx bs with
  | some (n, r) => if n ≤ r.length then some (r.take n.toNat, r.drop n.toNat) else none
  | none => none

theorem decT_encT (mx : Int) (s r : List UInt8) (hs : (s.length : Int) ≤ mx) (h : s.length ≤ 9223372036854775807) : decT mx (encT s ++ r) = some (s, r) := by
  unfold decT encT
  rw [List.append_assoc, decI_encI 0 mx s.length _ (by omega) (by omega) (by omega) hs]
  simp only [List.length_append]
  rw [if_pos (by omega)]
  simp

theorem decT_canon {mx : Int} {s bs r : List UInt8} (h : decT mx bs = some (s, r)) : bs = encT s ++ r ∧ (s.length : Int) ≤ mx := by
  unfold decT at h
  cases hd : decI 0 mx bs with
  | none => rw [hd] at h; cases h
  | some p =>
    obtain ⟨n, r'⟩ := p
    rw [hd] at h
    simp only at h
    split at h
    · rename_i hb
      simp only [Option.some.injEq, Prod.mk.injEq] at h
      obtain ⟨rfl, rfl⟩ := h
      obtain ⟨h1, h2, h3, _, _⟩ := decI_canon hd
      have hl : ((r'.take n.toNat).length : Int) = n := by rw [List.length_take]; omega
      refine ⟨?_, by omega⟩
      unfold encT
      rw [hl, List.append_assoc, List.take_append_drop]
      exact h1
    · cases h

section
variable {α : Type}

def decN (el : List UInt8 → Option (α × List UInt8)) : Nat → List UInt8 → Option (List α × List UInt8)
  | 0, bs => some ([], bs)
  | n + 1, bs => match el bs with
    | some (x, r) => match decN el n r with
      | some (l, r') => some (x :: l, r')
      | none => none
    | none => none

def encs (e : α → List UInt8) : List α → List UInt8
  | [] => []
  | x :: l => e x ++ encs e l

theorem encs_append (e : α → List UInt8) : ∀ (l m : List α), encs e (l ++ m) = encs e l ++ encs e m
  | [], _ => rfl
  | x :: l, m => by rw [List.cons_append, encs, encs, encs_append e l m, List.append_assoc]

theorem decN_encs (el : List UInt8 → Option (α × List UInt8)) (e : α → List UInt8) : ∀ (l : List α) (r : List UInt8), (∀ x ∈ l, ∀ r, el (e x ++ r) = some (x, r)) → decN el l.length (encs e l ++ r) = some (l, r)
  | [], _, _ => rfl
  | x :: l, r, h => by
    rw [List.length_cons, decN, encs, List.append_assoc, h x (by simp)]
    simp only
    rw [decN_encs el e l r (fun y hy => h y (by simp [hy]))]

theorem decN_canon (el : List UInt8 → Option (α × List UInt8)) (e : α → List UInt8) (good : α → Prop) (hel : ∀ x bs r, el bs = some (x, r) → bs = e x ++ r ∧ good x) :
    ∀ (n : Nat) (bs : List UInt8) (l : List α) (r : List UInt8), decN el n bs = some (l, r) → bs = encs e l ++ r ∧ l.length = n ∧ ∀ x ∈ l, good x
  | 0, bs, l, r, h => by
    simp only [decN, Option.some.injEq, Prod.mk.injEq] at h
    obtain ⟨rfl, rfl⟩ := h
    exact ⟨rfl, rfl, by simp⟩
  | n + 1, bs, l, r, h => by
    rw [decN] at h
    cases h1 : el bs with
    | none => rw [h1] at h; cases h
    | some p =>
      obtain ⟨x, r1⟩ := p
      rw [h1] at h
      simp only at h
      cases h2 : decN el n r1 with
      | none => rw [h2] at h; cases h
      | some q =>
        obtain ⟨l', r2⟩ := q
        rw [h2] at h
        simp only [Option.some.injEq, Prod.mk.injEq] at h
        obtain ⟨rfl, rfl⟩ := h
        obtain ⟨e1, g1⟩ := hel x bs r1 h1
        obtain ⟨e2, hl, g2⟩ := decN_canon el e good hel n r1 l' r2 h2
        refine ⟨by rw [encs, List.append_assoc, ← e2]; exact e1, by simp [hl], ?_⟩
        intro y hy
        rcases List.mem_cons.1 hy with rfl | hy
        · exact g1
        · exact g2 y hy

def encList (e : α → List UInt8) (l : List α) : List UInt8 := encI l.length ++ encs e l
def decList (el : List UInt8 → Option (α × List UInt8)) (mx : Int) (bs : List UInt8) : Option (List α × List UInt8) :=
  match decI 0 mx bs with
  | some (n, r) => decN el n.toNat r
  | none => none

theorem decList_enc (el : List UInt8 → Option (α × List UInt8)) (e : α → List UInt8) (mx : Int) (l : List α) (r : List UInt8) (hm : (l.length : Int) ≤ mx) (hl : l.length ≤ 9223372036854775807)
    (h : ∀ x ∈ l, ∀ r, el (e x ++ r) = some (x, r)) : decList el mx (encList e l ++ r) = some (l, r) := by
  unfold decList encList
  rw [List.append_assoc, decI_encI 0 mx l.length _ (by omega) (by omega) (by omega) hm]
  simp only [Int.toNat_natCast]
  exact decN_encs el e l r h

theorem decList_canon {el : List UInt8 → Option (α × List UInt8)} {e : α → List UInt8} {good : α → Prop} (hel : ∀ x bs r, el bs = some (x, r) → bs = e x ++ r ∧ good x)
    {mx : Int} {l : List α} {bs r : List UInt8} (h : decList el mx bs = some (l, r)) : bs = encList e l ++ r ∧ (l.length : Int) ≤ mx ∧ ∀ x ∈ l, good x := by
  unfold decList at h
  cases hd : decI 0 mx bs with
  | none => rw [hd] at h; cases h
  | some p =>
    obtain ⟨n, r'⟩ := p
    rw [hd] at h
    simp only at h
    obtain ⟨h1, h2, h3, _, _⟩ := decI_canon hd
    obtain ⟨e2, hl, hg⟩ := decN_canon el e good hel _ _ _ _ h
    have hn : (l.length : Int) = n := by rw [hl]; omega
    refine ⟨?_, by omega, hg⟩
    unfold encList
    rw [hn, List.append_assoc, ← e2]
    exact h1

/-- No proper beginning of what is read whole is read. -/
theorem no_prefix {d : List UInt8 → Option (α × List UInt8)} {e : α → List UInt8} {p q : List UInt8} {x y : α} {r : List UInt8}
    (hp : d p = some (y, r)) (hc : ∀ y p r, d p = some (y, r) → p = e y ++ r) (he : ∀ y p r r', d p = some (y, r) → d (e y ++ r') = some (y, r'))
    (hw : d (p ++ q) = some (x, [])) : q = [] := by
  have h1 := he y p r (r ++ q) hp
  rw [← List.append_assoc, ← hc y p r hp, hw] at h1
  simp only [Option.some.injEq, Prod.mk.injEq] at h1
  exact (List.append_eq_nil_iff.1 h1.2.symm).2
end

/-! The order of encodings. -/
theorem hi_len (a : Nat) : ∀ b, a ≤ b → (hi a).length ≤ (hi b).length := by
  induction a using Nat.strongRecOn with
  | ind a ih =>
    intro b hab
    by_cases ha : a = 0
    · rw [ha, hi_zero]; exact Nat.zero_le _
    · rw [hi_succ ha, hi_succ (show b ≠ 0 by omega), List.length_append, List.length_append]
      have := ih (a / 128) (by omega) (b / 128) (by omega)
      simp only [List.length_cons, List.length_nil]
      omega

theorem enc_len (a b : Nat) (h : a ≤ b) : (enc a).length ≤ (enc b).length := by
  unfold enc
  rw [List.length_append, List.length_append]
  have := hi_len (a / 128) (b / 128) (by omega)
  simp only [List.length_cons, List.length_nil]
  omega

theorem hi_bound (u : Nat) : ∀ k, u < 128 ^ k → (hi u).length ≤ k := by
  induction u using Nat.strongRecOn with
  | ind u ih =>
    intro k h
    by_cases hu : u = 0
    · rw [hu, hi_zero]; exact Nat.zero_le _
    · cases k with
      | zero => omega
      | succ k =>
        rw [hi_succ hu, List.length_append]
        have := ih (u / 128) (by omega) k (by rw [Nat.pow_succ] at h; omega)
        simp only [List.length_cons, List.length_nil]
        omega

theorem enc_bound (u : Nat) (h : u < 2 ^ 64) : 1 ≤ (enc u).length ∧ (enc u).length ≤ 10 := by
  unfold enc
  rw [List.length_append]
  have := hi_bound (u / 128) 9 (by omega)
  simp only [List.length_cons, List.length_nil]
  omega

end Go.Proofs.Ytefonoaffeahjaa
