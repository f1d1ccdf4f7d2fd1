/-
  The characters of a range over a string, and those of the reference.
  Plain data that a listed variable holds: what reads as a datum of numbers, strings, structs and arrays is the datum's values, cell for cell.
  The program's table of spans: what it holds when a call begins, and that it says of each number what the document's table says.
  The program's Languages, Articles.
-/
import Derived.Test.YtmgofhbdaopapaaDoorPkAF
import Derived.Laws.RangeAny
import Derived.Lib.OthersKept
import Derived.Test.YtmgofhbdaopapaaDoorWords
import Derived.Lib.LaidTab
import Derived.LaidLaws
import Derived.Test.YtmgofhbdaopapaaDoorPkAB
import Derived.Test.YtmgofhbdaopapaaDoorRows
import Derived.Test.YtmgofhbdaopapaaDoorPkAI
namespace Go.Proofs.YtmgofhbdaopapaaDoor
open Go.RowKit

theorem get_str (s : List UInt8) (j : Nat) : (str s).get! j = s.getD j 0 := by
  show (s.toArray)[j]! = _
  simp [List.getD]
  rfl
/-- The character at the beginning of a list of bytes, as Go reads it, and its width. -/
def runeAt (t : List UInt8) : Nat × Nat := Utf8.decode (str t) 0
theorem decode_drop (s : List UInt8) (k : Nat) : Utf8.decode (str s) k = runeAt (s.drop k) := by
  have hg : ∀ j, (str s).get! (k + j) = (str (s.drop k)).get! (0 + j) := by
    intro j
    rw [get_str, get_str]
    simp [List.getD]
  have hl : ∀ j, (k + j < (str s).size) = (0 + j < (str (s.drop k)).size) := by
    intro j
    show (k + j < s.length) = (0 + j < (s.drop k).length)
    rw [List.length_drop]
    simp
    omega
  unfold runeAt Utf8.decode
  simp only [hg, hl]

theorem rune_ascii {b : UInt8} {t : List UInt8} (h : b.toNat < 128) : runeAt (b :: t) = (b.toNat, 1) := by
  unfold runeAt Utf8.decode
  simp only [get_str]
  simp [h]
def goodU (c : Nat) : Bool := decide (c < 55296) || decide (57344 ≤ c)
theorem rune_two {b c1 : UInt8} {t : List UInt8} (h : ¬ b.toNat < 128) (h2 : is2 b.toNat c1.toNat = true) : runeAt (b :: c1 :: t) = (v2 b.toNat c1.toNat, 2) := by
  obtain ⟨k1, k2, k3⟩ := is2_of h2
  have e1 : b.toNat / 32 = 6 := by omega
  have e2 : b.toNat % 32 * 64 + c1.toNat % 64 = v2 b.toNat c1.toNat := by unfold v2; omega
  have e3 : 128 ≤ v2 b.toNat c1.toNat := by unfold v2; omega
  have e4 : (0 + 1 < (str (b :: c1 :: t)).size) = True := by simp [str_size]
  unfold runeAt Utf8.decode
  simp only [get_str, e4]
  simp [h, e1, k3, e2, e3]
theorem valid_nat {c : Nat} (h : c < 65536) : Utf8.valid (c : Int) = goodU c := by
  unfold Utf8.valid goodU
  rw [Bool.eq_iff_iff]
  simp only [Bool.or_eq_true, Bool.and_eq_true, decide_eq_true_eq]
  omega
theorem rune_three {b c1 c2 : UInt8} {t : List UInt8} (h : ¬ b.toNat < 128) (h3 : is3 b.toNat c1.toNat c2.toNat = true) :
    runeAt (b :: c1 :: c2 :: t) = if goodU (v3 b.toNat c1.toNat c2.toNat) = true then (v3 b.toNat c1.toNat c2.toNat, 3) else (65533, 1) := by
  obtain ⟨k1, k2, k3, k4, k5⟩ := is3_of h3
  have e1 : ¬ b.toNat / 32 = 6 := by omega
  have e1' : b.toNat / 16 = 14 := by omega
  have e2 : b.toNat % 16 * 4096 + c1.toNat % 64 * 64 + c2.toNat % 64 = v3 b.toNat c1.toNat c2.toNat := by unfold v3; omega
  have e4 : (0 + 1 < (str (b :: c1 :: c2 :: t)).size) = True := by simp [str_size]
  have e5 : (0 + 2 < (str (b :: c1 :: c2 :: t)).size) = True := by simp [str_size]
  have e6 : v3 b.toNat c1.toNat c2.toNat < 65536 := by unfold v3; omega
  have e7 := valid_nat e6
  unfold runeAt Utf8.decode
  simp only [get_str, e4, e5]
  have g0 : (b :: c1 :: c2 :: t).getD (0 + 0) 0 = b := rfl
  have g1 : (b :: c1 :: c2 :: t).getD (0 + 1) 0 = c1 := rfl
  have g2 : (b :: c1 :: c2 :: t).getD (0 + 2) 0 = c2 := rfl
  rw [g0, g1, g2, e2, e7]
  generalize v3 b.toNat c1.toNat c2.toNat = V at *
  simp [h, e1, e1', k3, k4, k5, Utf8.runeError]

theorem no_kind_65533 : kindR 65533 = 0 := by kernel_rfl
theorem memB_none {l : List Nat} {c : Int} (hl : ∀ x ∈ l, x < 55296) (h : 55296 ≤ c) : memB l c = false := by
  unfold memB
  rw [List.any_eq_false]
  intro d hd
  have := hl d hd
  simp
  omega
theorem latin_low : ∀ x ∈ latinL, x < 55296 := of_decide_eq_true (by kernel_rfl)
theorem greek_low : ∀ x ∈ greekL, x < 55296 := of_decide_eq_true (by kernel_rfl)
theorem cyr_low : ∀ x ∈ cyrL, x < 55296 := of_decide_eq_true (by kernel_rfl)
theorem inB_false {c lo hi : Int} (h : ¬ (lo ≤ c ∧ c ≤ hi)) : inB c lo hi = false := by
  unfold inB
  rw [Bool.and_eq_false_iff]
  by_cases h1 : lo ≤ c
  · exact .inr (by simp; omega)
  · exact .inl (by simp; omega)
theorem kind_surrogate {c : Nat} (h : 55296 ≤ c) (h2 : c < 57344) : kindR (c : Int) = 0 := by
  unfold kindR clsR
  rw [inB_false (by omega), if_neg (by decide)]
  unfold clsN
  rw [inB_false (by omega), inB_false (by omega), inB_false (by omega), inB_false (by omega), inB_false (by omega), inB_false (by omega), inB_false (by omega), inB_false (by omega), inB_false (by omega), inB_false (by omega), inB_false (by omega),
    memB_none latin_low (by omega), memB_none greek_low (by omega), memB_none cyr_low (by omega)]
  have e : ∀ d : Int, d < 55296 ∨ 57344 ≤ d → ((c : Int) == d) = false := fun d hd => eqb_false (by omega)
  rw [e 32 (by omega), e 160 (by omega), e 178 (by omega), e 179 (by omega), e 185 (by omega), e 383 (by omega), e 64257 (by omega), e 64258 (by omega), e 803 (by omega), e 807 (by omega), e 808 (by omega)]
  rfl

theorem kind_big {c : Nat} (h : 65536 ≤ c) : kindR (c : Int) = 0 := by
  by_cases hk : kindR (c : Int) = 0
  · exact hk
  · have h1 : hasR (c : Int) = true := has_kind.2 hk
    have := has_range h1
    omega
theorem pair_snd {a b c d : Nat} (h : (a, b) = (c, d)) : b = d := congrArg Prod.snd h
theorem at_none_facts {t : List UInt8} (h0 : t ≠ []) (h : atR t = (0, 0)) :
    ¬ (t.getD 0 0).toNat < 128 ∧ (1 < t.length → is2 (t.getD 0 0).toNat (t.getD 1 0).toNat = false) ∧ (2 < t.length → is3 (t.getD 0 0).toNat (t.getD 1 0).toNat (t.getD 2 0).toNat = false) := by
  match t with
  | [] => exact absurd rfl h0
  | b :: t =>
    have hb : ¬ b.toNat < 128 := fun hb => by rw [at_ascii hb] at h; exact absurd (pair_snd h) (by decide)
    refine ⟨hb, ?_, ?_⟩
    · intro hl
      match t with
      | [] => simp at hl
      | c1 :: t =>
        show is2 b.toNat c1.toNat = false
        refine bool_false fun h2 => ?_
        rw [at_two hb h2] at h
        exact absurd (pair_snd h) (by decide)
    · intro hl
      match t with
      | [] => simp at hl
      | [_] => simp at hl
      | c1 :: c2 :: t =>
        show is3 b.toNat c1.toNat c2.toNat = false
        refine bool_false fun h3 => ?_
        have h2 : is2 b.toNat c1.toNat = false := is2_no (is3_of h3).1
        rw [at_three hb h2 h3] at h
        exact absurd (pair_snd h) (by decide)
theorem rune_none {t : List UInt8} (h0 : t ≠ []) (h : atR t = (0, 0)) : kindR ((runeAt t).1 : Int) = 0 := by
  obtain ⟨h1, h2, h3⟩ := at_none_facts h0 h
  have hl : (str t).size = t.length := rfl
  unfold runeAt Utf8.decode
  simp only [get_str, hl, Nat.zero_add]
  generalize (t.getD 0 0).toNat = b0 at *
  generalize (t.getD 1 0).toNat = b1 at *
  generalize (t.getD 2 0).toNat = b2 at *
  generalize (t.getD 3 0).toNat = b3 at *
  rw [if_neg h1]
  split
  · rename_i hc
    simp only [Bool.and_eq_true, beq_iff_eq, decide_eq_true_eq] at hc
    have h4 := of_decide_eq_false (h2 hc.2.1)
    rw [if_neg (by omega)]
    exact no_kind_65533
  · split
    · rename_i hc
      simp only [Bool.and_eq_true, beq_iff_eq, decide_eq_true_eq] at hc
      have h4 := of_decide_eq_false (h3 hc.2.1)
      unfold v3 at h4
      rw [if_neg (by
        simp only [Bool.and_eq_true, decide_eq_true_eq]
        rintro ⟨h5, _⟩
        omega)]
      exact no_kind_65533
    · split
      · split
        · rename_i hc
          simp only [Bool.and_eq_true, decide_eq_true_eq] at hc
          exact kind_big hc.1
        · exact no_kind_65533
      · exact no_kind_65533

/-- A character of a range is one of the repertoire exactly if the reference finds it there. -/
theorem rune_good {t : List UInt8} (h0 : t ≠ []) (h : kindR ((runeAt t).1 : Int) ≠ 0) : atR t = runeAt t := by
  rcases at_cases t with rfl | ⟨b, t, rfl, hb⟩ | ⟨b, c1, t, rfl, hb, h2⟩ | ⟨b, c1, c2, t, rfl, hb, h2, h3⟩ | ⟨_, hn⟩
  · exact absurd rfl h0
  · rw [at_ascii hb, rune_ascii hb]
  · rw [at_two hb h2, rune_two hb h2]
  · rw [at_three hb h2 h3, rune_three hb h3] at *
    split
    · rfl
    · rename_i hg
      rw [if_neg hg] at h
      exact absurd no_kind_65533 h
  · exact absurd (rune_none h0 hn) h
theorem rune_bad {t : List UInt8} (h0 : t ≠ []) (h : kindR ((runeAt t).1 : Int) = 0) : (atR t).2 = 0 ∨ kindR ((atR t).1 : Int) = 0 := by
  rcases at_cases t with rfl | ⟨b, t, rfl, hb⟩ | ⟨b, c1, t, rfl, hb, h2⟩ | ⟨b, c1, c2, t, rfl, hb, h2, h3⟩ | ⟨_, hn⟩
  · exact absurd rfl h0
  · rw [rune_ascii hb] at h
    rw [at_ascii hb]
    exact .inr h
  · rw [rune_two hb h2] at h
    rw [at_two hb h2]
    exact .inr h
  · rw [rune_three hb h3] at h
    rw [at_three hb h2 h3]
    by_cases hg : goodU (v3 b.toNat c1.toNat c2.toNat) = true
    · rw [if_pos hg] at h
      exact .inr h
    · refine .inr (kind_surrogate ?_ ?_)
      · unfold goodU at hg
        simp only [Bool.or_eq_true, decide_eq_true_eq, not_or] at hg
        show 55296 ≤ v3 _ _ _
        omega
      · unfold goodU at hg
        simp only [Bool.or_eq_true, decide_eq_true_eq, not_or] at hg
        show v3 _ _ _ < 57344
        omega
  · exact .inl (by rw [hn])
theorem Past.rune {s : List UInt8} {k c n : Nat} {l : List Nat} (h : Past s k l) (hk : k < s.length) (ha : Utf8.decode (str s) k = (c, n)) (hc : hasR (c : Int) = true) : Past s (k + n) (l ++ [c]) ∧ n ≠ 0 := by
  have hne : s.drop k ≠ [] := fun e => by rw [List.drop_eq_nil_iff] at e; omega
  rw [decode_drop] at ha
  have h1 := rune_good hne (by rw [ha]; exact has_kind.1 hc)
  rw [ha] at h1
  have h0 : n ≠ 0 := by
    intro h0
    subst h0
    rcases at_cases (s.drop k) with e | ⟨b, t, e, hb⟩ | ⟨b, c1, t, e, hb, h2⟩ | ⟨b, c1, c2, t, e, hb, h2, h3⟩ | ⟨_, hn⟩
    · exact hne e
    · rw [e, at_ascii hb] at h1; exact absurd (pair_snd h1) (by decide)
    · rw [e, at_two hb h2] at h1; exact absurd (pair_snd h1) (by decide)
    · rw [e, at_three hb h2 h3] at h1; exact absurd (pair_snd h1) (by decide)
    · rw [hn] at h1
      injection h1 with e1 e2
      rw [← e1] at hc
      exact absurd hc (by decide)
  exact ⟨h.next hk h1 h0 (has_kind.1 hc), h0⟩
theorem Past.rune_bad {s : List UInt8} {k c n : Nat} {l : List Nat} (h : Past s k l) (hk : k < s.length) (ha : Utf8.decode (str s) k = (c, n)) (hc : hasR (c : Int) = false) : decR s = none := by
  have hne : s.drop k ≠ [] := fun e => by rw [List.drop_eq_nil_iff] at e; omega
  rw [decode_drop] at ha
  have h1 := Go.Proofs.YtmgofhbdaopapaaDoor.rune_bad hne (by rw [ha]; exact has_kind_no hc)
  exact h.bad hk rfl h1

/-! Rows of the call's own beside an iterator. -/
theorem own_iter {w : World} {B e size n : Nat} {v : Value} {xs : List Value} {k : Nat} {s : ByteArray} {pos : Nat} (h : w.ownsRow B e size v n xs) (hk : w.heap[k]? = some (.stringIter s pos)) (pos' : Nat) : (w.iterAt k s pos').ownsRow B e size v n xs := by
  refine ⟨h.1, ?_⟩
  rcases h.2 with h0 | ⟨g, cap, cur, hv, hb, hg, rest⟩
  · exact .inl h0
  · exact .inr ⟨g, cap, cur, hv, hb, (Lib.iterAt_other _ _ _ _ _ (fun e => by subst e; rw [hk] at hg; cases hg)).trans hg, rest⟩
theorem own_not_iter {w : World} {B e size n : Nat} {v : Value} {xs : List Value} {k : Nat} {s : ByteArray} {pos : Nat} (h : w.ownsRow B e size v n xs) (hk : w.heap[k]? = some (.stringIter s pos)) : v.ownBlock ≠ some k := by
  rcases h.2 with ⟨rfl, _⟩ | ⟨g, cap, cur, rfl, hb, hg, rest⟩
  · simp [Value.ownBlock]
  · intro e
    simp only [Value.ownBlock, Option.some.injEq] at e
    subst e
    rw [hk] at hg
    cases hg

end Go.Proofs.YtmgofhbdaopapaaDoor

namespace Go.Proofs.YtmgofhbdaopapaaDoor
open Go.RowKit

mutual
def flat {H : Type} : DataW H → List Value
  | .lit (.bool b) => [.bool b]
  | .lit (.int k n) => [.int k n]
  | .lit (.string s) => [.string ⟨s.toArray⟩]
  | .agg ds => flatAll ds
  | _ => []
def flatAll {H : Type} : List (DataW H) → List Value
  | [] => []
  | d :: r => flat d ++ flatAll r
end

def offsOk (P : Program) : List Field → Nat → Nat → Bool
  | [], o, c => o == c
  | f :: r, o, c => f.offset == o && offsOk P r (o + P.cellsOf f.type) c
/-- A type of numbers, strings, structs and arrays, at most n deep, whose parts lie one behind the other. -/
def plainTy (P : Program) : Nat → TypeId → Bool
  | 0, _ => false
  | n + 1, t => match P.underlying t with
    | some (.int _) => true
    | some .string => true
    | some .bool => true
    | some (.array m e) => P.cellsOf t == m * P.cellsOf e && plainTy P n e
    | some (.struct fs) => offsOk P fs.toList 0 (P.cellsOf t) && fs.toList.all fun f => plainTy P n f.type
    | _ => false

section
variable {H : Type} {enc : TypeId × Value → H} {P : Program} {w : World} {base : Nat} {sp : Nat → Bool} {held : Bool}

theorem trod_arr {fuel : Nat} {t e : TypeId} {m : Nat} {cs : List Value} {d : DataW H} {p : List MemPlace} (ht : P.underlying t = some (.array m e)) (h : DataW.trod enc P w base sp held fuel t cs = some (d, p)) :
    ∃ n xs, fuel = n + 1 ∧ d = .agg (xs.map (fun x : DataW H × List MemPlace => x.1)) ∧ cs.length = P.cellsOf t ∧
      (List.range m).mapM (fun i => DataW.trod enc P w base sp held n e ((cs.drop (i * P.cellsOf e)).take (P.cellsOf e))) = some xs := by
  cases fuel with
  | zero => simp [DataW.trod] at h
  | succ n =>
    simp only [DataW.trod, ht] at h
    split at h
    · rename_i hl
      obtain ⟨xs, hm, hx⟩ := Option.map_eq_some_iff.1 h
      exact ⟨n, xs, rfl, (congrArg Prod.fst hx).symm, hl, hm⟩
    · cases h

theorem flat_rows {c : Nat} {cs : List Value} : ∀ (m : Nat) (ds : List (DataW H)), ds.length = m → (∀ i d, ds[i]? = some d → (cs.drop (i * c)).take c = flat d) → cs.length = m * c → cs = flatAll ds := by
  intro m
  induction m generalizing cs with
  | zero =>
    intro ds hds _ hl
    rw [List.length_eq_zero_iff.1 hds]
    rw [Nat.zero_mul] at hl
    exact List.length_eq_zero_iff.1 hl
  | succ m ih =>
    intro ds hds hall hl
    match ds, hds with
    | d :: r, hds =>
      have h0 := hall 0 d rfl
      rw [Nat.zero_mul, List.drop_zero] at h0
      have h1 := ih (cs := cs.drop c) r (by simpa using hds) (fun i d' hd' => by
        rw [List.drop_drop, ← hall (i + 1) d' (by simpa using hd')]
        congr 2
        rw [Nat.succ_mul]
        omega) (by rw [List.length_drop, hl, Nat.succ_mul]; omega)
      rw [flatAll, ← h0, ← h1, List.take_append_drop]

theorem flat_struct {cs : List Value} : ∀ (fs : List Field) (ds : List (DataW H)) (o : Nat), fs.length = ds.length → offsOk P fs o cs.length = true →
    (∀ (i : Nat) (f : Field) (d : DataW H), fs[i]? = some f → ds[i]? = some d → (cs.drop f.offset).take (P.cellsOf f.type) = flat d) → cs.drop o = flatAll ds
  | [], [], o, _, ho, _ => by
    unfold offsOk at ho
    rw [beq_iff_eq] at ho
    rw [flatAll, List.drop_eq_nil_iff]
    omega
  | f :: fs, d :: ds, o, hl, ho, hall => by
    unfold offsOk at ho
    rw [Bool.and_eq_true, beq_iff_eq] at ho
    have h0 := hall 0 f d rfl rfl
    have h1 := flat_struct fs ds _ (by simpa using hl) ho.2 fun i f' d' hf' hd' => hall (i + 1) f' d' (by simpa using hf') (by simpa using hd')
    rw [ho.1] at h0
    rw [flatAll, ← h0, ← h1, ← List.drop_drop, List.take_append_drop]
  | [], _ :: _, _, hl, _, _ => by simp at hl
  | _ :: _, [], _, hl, _, _ => by simp at hl

theorem flat_of_trod : ∀ (n fuel : Nat) (t : TypeId) (cs : List Value) (d : DataW H) (p : List MemPlace), plainTy P n t = true → DataW.trod enc P w base sp held fuel t cs = some (d, p) → cs = flat d := by
  intro n
  induction n with
  | zero => intro fuel t cs d p h; cases h
  | succ n ih =>
    intro fuel t cs d p hp h
    unfold plainTy at hp
    split at hp
    · rename_i k ht
      obtain ⟨z, rfl, hx, _⟩ := DataW.trod_int ht h
      rw [show d = _ from congrArg Prod.fst hx]
      rfl
    · rename_i ht
      obtain ⟨s, rfl, hx, _⟩ := DataW.trod_string ht h
      rw [show d = _ from congrArg Prod.fst hx]
      rfl
    · rename_i ht
      obtain ⟨b, rfl, hx⟩ := DataW.trod_bool ht h
      rw [show d = _ from congrArg Prod.fst hx]
      rfl
    · rename_i m e ht
      rw [Bool.and_eq_true, beq_iff_eq] at hp
      obtain ⟨f, xs, rfl, rfl, hl, hm⟩ := trod_arr ht h
      have hxl : xs.length = m := by simpa using Lib.mapM_length hm
      refine flat_rows (c := P.cellsOf e) m _ (by rw [List.length_map]; exact hxl) (fun i d hd => ?_) (by rw [hl, hp.1])
      rw [List.getElem?_map] at hd
      obtain ⟨x, hx, rfl⟩ := Option.map_eq_some_iff.1 hd
      have hi : i < m := by rw [← hxl]; exact (List.getElem?_eq_some_iff.1 hx).1
      obtain ⟨b, hb, hf⟩ := Lib.mapM_at hm i i (by simp [hi])
      rw [hx] at hb
      cases hb
      exact ih f e _ x.1 x.2 hp.2 hf
    · rename_i fs ht
      rw [Bool.and_eq_true] at hp
      obtain ⟨xs, f, rfl, hx, hl, hxl, hall⟩ := DataW.trod_struct ht h
      rw [show d = _ from congrArg Prod.fst hx]
      have := flat_struct (P := P) (cs := cs) fs.toList (xs.map (·.1)) 0 (by simp [hxl]) (by rw [hl]; exact hp.1) (fun i g d hg hd => by
        rw [List.getElem?_map] at hd
        obtain ⟨x, hx, rfl⟩ := Option.map_eq_some_iff.1 hd
        have hg2 : fs[i]? = some g := by rwa [← Array.getElem?_toList]
        have h1 := hall i g hg2
        rw [hx] at h1
        exact ih f g.type _ x.1 x.2 (List.all_eq_true.1 hp.2 g (List.mem_of_getElem? hg)) h1)
      rw [List.drop_zero] at this
      rw [this]
      rfl
    · cases hp
end

/-- A listed variable of such a type holds its datum's values. -/
theorem laid_flat {P : Program} {w : World} {n : String} {dd : DataW Unit} {rest : List (String × DataW Unit)} (h : laidMet P ((n, dd) :: rest) w) {g t : Nat} (hg : P.globalNamed n = some g) (ht : (P.globals[g]?).map (·.type) = some t) (hp : plainTy P 8 t = true) :
    ∃ u fz, w.heap[g]? = some (.cells (flat dd).toArray u fz) := by
  obtain ⟨ps, ⟨g', t', cs, fuel, p, q, hg', ht', hvar, hd, _, _⟩, _⟩ := h
  obtain rfl := Option.some.inj (hg.symm.trans hg')
  obtain rfl := Option.some.inj (ht.symm.trans ht')
  have h1 := flat_of_trod 8 fuel t _ dd p hp hd
  unfold World.var? at hvar
  rw [hg] at hvar
  simp only [Option.bind_some] at hvar
  split at hvar
  · rename_i cs' u fz hh
    cases hvar
    refine ⟨u, fz, ?_⟩
    rw [hh, ← h1]
  · cases hvar

end Go.Proofs.YtmgofhbdaopapaaDoor

namespace Go.Proofs.YtmgofhbdaopapaaDoor
open Go.RowKit

/-- First, last, script, kind. -/
def tabL : List (Nat × Nat × Nat × Nat) := [
  (32, 32, 0, 4), (33, 47, 0, 5), (48, 57, 0, 3), (58, 64, 0, 5), (65, 90, 1, 1), (91, 96, 0, 5), (97, 122, 1, 1), (123, 126, 0, 5), (160, 160, 0, 4), (178, 179, 0, 3), (185, 185, 0, 3), (192, 214, 1, 1), (216, 246, 1, 1), (248, 305, 1, 1), (308, 311, 1, 1), (313, 318, 1, 1), (321, 328, 1, 1), (330, 383, 1, 1),
  (768, 772, 0, 2), (774, 776, 0, 2), (778, 780, 0, 2), (803, 803, 0, 2), (807, 808, 0, 2), (902, 902, 2, 1), (904, 906, 2, 1), (908, 908, 2, 1), (910, 911, 2, 1), (913, 929, 2, 1), (931, 943, 2, 1), (945, 974, 2, 1), (1025, 1025, 3, 1), (1028, 1028, 3, 1), (1030, 1031, 3, 1), (1038, 1038, 3, 1), (1040, 1103, 3, 1), (1105, 1105, 3, 1), (1108, 1108, 3, 1), (1110, 1111, 3, 1), (1118, 1118, 3, 1), (1168, 1169, 3, 1), (64257, 64258, 1, 1)]
theorem tab_len : tabL.length = 41 := rfl
def spanList : List Value := tabL.flatMap fun x => [Value.int .u16 (x.1 : Int), .int .u16 (x.2.1 : Int), .int .u8 (x.2.2.1 : Int), .int .u8 (x.2.2.2 : Int)]
def spanCells : Array Value := spanList.toArray
theorem span_get (j : Nat) : spanCells[j]? = spanList[j]? := List.getElem?_toArray
/-- When the world stands, the program's table is as it was laid. -/
def Spans (w : World) : Prop := ∃ t fz, w.heap[0]? = some (.cells spanCells t fz)
theorem Spans.lt {w : World} (h : Spans w) : 0 < w.heap.size := by
  obtain ⟨t, fz, h⟩ := h
  exact (Array.getElem?_eq_some_iff.1 h).1
theorem Spans.below {w w' : World} (h : Spans w) (hb : Below w.heap.size w w') : Spans w' := by
  have hl := h.lt
  obtain ⟨t, fz, h⟩ := h
  exact ⟨t, fz, (hb.block 0 hl).trans h⟩
theorem Spans.cell {w : World} (h : Spans w) (j : Nat) : w.cell? ⟨0, j, none⟩ = spanCells[j]? := by
  obtain ⟨t, fz, h⟩ := h
  exact Go.cell_of_row w 0 j spanCells t fz h
theorem spans_of_laid {w : World} (h : laidMet Tryd.prog [("bookplate/repertoire.spans", Rows.laid_bookplate_repertoire_spans)] w) : Spans w := by
  obtain ⟨u, fz, h1⟩ := laid_flat h (g := 0) (t := 103) (by kernel_rfl) (by kernel_rfl) (by kernel_rfl)
  have e : (flat (Rows.laid_bookplate_repertoire_spans (H := Unit))).toArray = spanCells := by kernel_rfl
  rw [e] at h1
  exact ⟨u, fz, h1⟩

def spanAt (i : Nat) : Nat × Nat × Nat × Nat := tabL.getD i (0, 0, 0, 0)
theorem flat4 {α β : Type} (a b c d : α → β) : ∀ (l : List α) (i : Nat) (x : α), l[i]? = some x →
    (l.flatMap fun x => [a x, b x, c x, d x])[i * 4]? = some (a x) ∧ (l.flatMap fun x => [a x, b x, c x, d x])[i * 4 + 1]? = some (b x) ∧ (l.flatMap fun x => [a x, b x, c x, d x])[i * 4 + 2]? = some (c x) ∧ (l.flatMap fun x => [a x, b x, c x, d x])[i * 4 + 3]? = some (d x)
  | [], i, x, h => by simp at h
  | y :: l, 0, x, h => by
    simp at h
    subst h
    exact ⟨rfl, rfl, rfl, rfl⟩
  | y :: l, i + 1, x, h => by
    have := flat4 a b c d l i x (by simpa using h)
    rw [List.flatMap_cons]
    have e : ∀ j, ([a y, b y, c y, d y] ++ l.flatMap fun x => [a x, b x, c x, d x])[(i + 1) * 4 + j]? = (l.flatMap fun x => [a x, b x, c x, d x])[i * 4 + j]? := by
      intro j
      rw [List.getElem?_append_right (by simp; omega)]
      congr 1
      simp
      omega
    have e0 := e 0
    rw [Nat.add_zero, Nat.add_zero] at e0
    rw [e0, e 1, e 2, e 3]
    exact this
theorem tab_get {i : Nat} (hi : i < 41) : tabL[i]? = some (spanAt i) := by
  unfold spanAt
  rw [List.getD, List.getElem?_eq_getElem (by rw [tab_len]; exact hi)]
  rfl
theorem Spans.cells {w : World} (h : Spans w) {i : Nat} (hi : i < 41) : w.cell? ⟨0, i * 4, none⟩ = some (.int .u16 ((spanAt i).1 : Int)) ∧ w.cell? ⟨0, i * 4 + 1, none⟩ = some (.int .u16 ((spanAt i).2.1 : Int)) ∧
    w.cell? ⟨0, i * 4 + 2, none⟩ = some (.int .u8 ((spanAt i).2.2.1 : Int)) ∧ w.cell? ⟨0, i * 4 + 3, none⟩ = some (.int .u8 ((spanAt i).2.2.2 : Int)) := by
  have := flat4 (fun x : Nat × Nat × Nat × Nat => Value.int .u16 (x.1 : Int)) (fun x => .int .u16 (x.2.1 : Int)) (fun x => .int .u8 (x.2.2.1 : Int)) (fun x => .int .u8 (x.2.2.2 : Int)) tabL i (spanAt i) (tab_get hi)
  rw [h.cell, h.cell, h.cell, h.cell, span_get, span_get, span_get, span_get]
  exact this

/-! The table says what the document says. -/
def ltPairs : List (Nat × Nat × Nat × Nat) → Bool
  | a :: b :: l => Nat.ble a.1 a.2.1 && Nat.blt a.2.1 b.1 && ltPairs (b :: l)
  | [a] => Nat.ble a.1 a.2.1
  | [] => true
theorem tab_asc : ltPairs tabL = true := by kernel_rfl
theorem last_asc : ∀ i j : Fin 41, i.val ≤ j.val → (spanAt i.val).2.1 ≤ (spanAt j.val).2.1 := by decide +kernel
theorem first_asc : ∀ i : Fin 41, ∀ j : Fin 41, i.val < j.val → (spanAt i.val).2.1 < (spanAt j.val).1 := by decide +kernel
theorem span_small : ∀ i : Fin 41, (spanAt i.val).1 ≤ 65535 ∧ (spanAt i.val).2.1 ≤ 65535 ∧ (spanAt i.val).2.2.1 ≤ 255 ∧ (spanAt i.val).2.2.2 ≤ 255 := by decide +kernel

/-- All numbers of a span have its class. -/
theorem span_class : (tabL.all fun x => (List.range' x.1 (x.2.1 + 1 - x.1)).all fun c => Nat.beq (clsA c).1 x.2.2.1 && Nat.beq (clsA c).2 x.2.2.2) = true := by kernel_rfl
/-- All characters that are not fullwidth lie in a span. -/
theorem class_span : (((List.range' 0 1536).filter hasA ++ [64257, 64258]).all fun c => tabL.any fun x => inN c x.1 x.2.1) = true := by kernel_rfl
theorem hasA_range {c : Nat} (h : hasA c = true) : c < 1536 ∨ c = 64257 ∨ c = 64258 := by
  unfold hasA inN at h
  simp only [Bool.or_eq_true, Bool.and_eq_true, Nat.ble_eq, Nat.beq_eq] at h
  omega
/-- What the search finds: the first span that does not end ahead of c. -/
theorem cls_by_span {c : Int} {i : Nat} (h1 : ∀ t, t < i → ((spanAt t).2.1 : Int) < c) (h2 : ∀ t, i ≤ t → t < 41 → c ≤ ((spanAt t).2.1 : Int)) (hi : i ≤ 41) :
    clsN c = if i = 41 ∨ c < ((spanAt i).1 : Int) then (0, 0) else ((spanAt i).2.2.1, (spanAt i).2.2.2) := by
  have hget : ∀ t, t < 41 → tabL[t]? = some (spanAt t) := fun t ht => tab_get ht
  by_cases hn : i = 41 ∨ c < ((spanAt i).1 : Int)
  · rw [if_pos hn]
    -- no span holds c
    have hno : ∀ t, t < 41 → ¬ (((spanAt t).1 : Int) ≤ c ∧ c ≤ ((spanAt t).2.1 : Int)) := by
      rintro t ht ⟨a, b⟩
      by_cases hti : t < i
      · have := h1 t hti; omega
      · rcases hn with hn | hn
        · omega
        · rcases Nat.lt_or_ge i t with h | h
          · have := first_asc ⟨i, by omega⟩ ⟨t, ht⟩ h
            have h3 := h2 i (Nat.le_refl _) (by omega)
            simp only at this
            omega
          · obtain rfl : t = i := by omega
            omega
    by_cases hc0 : c < 0
    · have hf : hasR c = false := by
        cases h : hasR c with
        | false => rfl
        | true => have := has_range h; omega
      have hk : clsR c = clsN c := by unfold clsR; rw [inB_false (by omega), if_neg (by decide)]
      unfold clsN
      rw [inB_false (by omega), inB_false (by omega), inB_false (by omega), inB_false (by omega), inB_false (by omega), inB_false (by omega), inB_false (by omega), inB_false (by omega), inB_false (by omega), inB_false (by omega), inB_false (by omega)]
      have hm : ∀ l : List Nat, memB l c = false := by
        intro l
        unfold memB
        rw [List.any_eq_false]
        intro d _
        simp
        omega
      rw [hm, hm, hm]
      have e : ∀ d : Int, 0 ≤ d → (c == d) = false := fun d hd => eqb_false (by omega)
      rw [e 32 (by omega), e 160 (by omega), e 178 (by omega), e 179 (by omega), e 185 (by omega), e 383 (by omega), e 64257 (by omega), e 64258 (by omega), e 803 (by omega), e 807 (by omega), e 808 (by omega)]
      rfl
    · obtain ⟨m, rfl⟩ : ∃ m : Nat, c = (m : Int) := ⟨c.toNat, by omega⟩
      rw [clsA_eq]
      refine clsA_none ?_
      cases h : hasA m with
      | false => rfl
      | true =>
        exfalso
        have hr := hasA_range h
        have hmem : m ∈ (List.range' 0 1536).filter hasA ++ [64257, 64258] := by
          rw [List.mem_append]
          rcases hr with hr | hr | hr
          · exact .inl (List.mem_filter.2 ⟨List.mem_range'_1.2 ⟨by omega, by omega⟩, h⟩)
          · exact .inr (by simp [hr])
          · exact .inr (by simp [hr])
        have h3 := List.all_eq_true.1 class_span m hmem
        obtain ⟨x, hx, hin⟩ := List.any_eq_true.1 h3
        obtain ⟨t, ht⟩ := List.getElem?_of_mem hx
        have htl : t < 41 := by rw [← tab_len]; exact (List.getElem?_eq_some_iff.1 ht).1
        have := hget t htl
        rw [ht] at this
        injection this with this
        subst this
        unfold inN at hin
        rw [Bool.and_eq_true, Nat.ble_eq, Nat.ble_eq] at hin
        exact hno t htl ⟨by omega, by omega⟩
  · rw [if_neg hn]
    have hi' : i < 41 := by omega
    have hlo : ((spanAt i).1 : Int) ≤ c := by omega
    have hhi := h2 i (Nat.le_refl _) hi'
    obtain ⟨m, rfl⟩ : ∃ m : Nat, c = (m : Int) := ⟨c.toNat, by omega⟩
    rw [clsA_eq]
    have h3 := List.all_eq_true.1 span_class (spanAt i) (List.mem_of_getElem? (hget i hi'))
    have h4 := List.all_eq_true.1 h3 m (List.mem_range'_1.2 ⟨by omega, by omega⟩)
    rw [Bool.and_eq_true, Nat.beq_eq, Nat.beq_eq] at h4
    rw [← h4.1, ← h4.2]

end Go.Proofs.YtmgofhbdaopapaaDoor

namespace Go.Proofs.YtmgofhbdaopapaaDoor
open Go.RowKit Go.Maps Go.Sort Go.Shelf

theorem sortsZ (m : Nat) : AnyZ.SortsIn Tryd.prog renZ Fence.wide m :=
  ⟨fun blk off cap ss W hH hblk hsz => callsIn_wide.2 (AnyM.slices_Sort_string sortM blk off cap ss W hH hblk hsz),
   fun p cap W => callsIn_wide.2 (AnyM.slices_Sort_string_none sortM p cap W)⟩
theorem mapsKeys_any (mb : Option Nat) (W : World) : Calls Tryd.prog 15 #[.map mb] W fun e w' => e = .returned (.func (.func 22) #[] #[.pointer (some ⟨W.heap.size, 0, none⟩)]) ∧ w' = W.alloc (.cells #[.map mb] 30) :=
  (callsIn_wide (n := 5)).1 (AnyZ.keys_in keysZ Fence.wide 5 trivial rfl mb W)
set_option maxHeartbeats 1000000 in
theorem sortedKeys_any (b nn : Nat) (D0 : DataW Value) (w : World) (hown : w.ownsMap Tryd.prog 9 heldR b nn D0) (hmax : Maps.size D0 ≤ maxLen) (hbytes : Maps.size D0 * 16 ≤ 140737488355328) :
    Calls Tryd.prog 14 #[.func (.func 22) #[] #[.pointer (some ⟨w.heap.size, 0, none⟩)]] (w.alloc (.cells #[.map (some b)] 30)) fun e w' => ∃ (v : Value) (ss : List (List UInt8)), e = .returned v ∧ ss.Perm (strKeys D0) ∧
      w'.ownsRow (w.alloc (.cells #[.map (some b)] 30)).heap.size 9 1 v ss.length ((ss.mergeSort (fun x y => decide (x ≤ y))).map encStr) ∧ (v = .slice none 0 0 ↔ ss = []) ∧ Below (w.alloc (.cells #[.map (some b)] 30)).heap.size (w.alloc (.cells #[.map (some b)] 30)) w' := by
  have hbl := hown.lt
  have hseq : SeqGives Fence.wide 2 Tryd.prog 22 #[.pointer (some ⟨w.heap.size, 0, none⟩)] encStr (fun ss => ss.Perm (strKeys D0)) (Maps.size D0) (w.alloc (.cells #[.map (some b)] 30)) :=
    AnyZ.keys_gives (ρ := renK) { keysZ with } Fence.wide _ trivial rfl (by omega) w.heap.size b nn D0 _ (by simp) (by simp) (by
      obtain ⟨es, clock, hb, Ft, hs, hD⟩ := hown
      exact ⟨es, clock, (Below.heap_alloc _ _ b hbl).trans hb, Ft, hs, hD⟩)
  exact (callsIn_wide (n := 5)).1 (AnyZ.sorted_in sortedZ Fence.wide 5 trivial trivial trivial trivial rfl (by omega) (sortsZ _) (enters_of Tryd.func21 (by kernel_rfl) rfl) 22 #[.pointer (some ⟨w.heap.size, 0, none⟩)] trivial (enters_of Tryd.func22 (by kernel_rfl) rfl) _ _ hmax hbytes _ hseq)

theorem langs_sorted : langT.mergeSort leB = langT := List.mergeSort_of_pairwise (by decide +kernel)
theorem keys_of {W : World} {b N : Nat} {D : DataW Value} (h : ArtMap W b N D (langT.zip artT)) : (strKeys D).Perm langT ∧ Maps.size D = 10 := by
  obtain ⟨es, rfl, hp⟩ := h.keys
  have hz : ((langT.zip artT).map fun p => Lit.string p.1) = langT.map Lit.string := by rfl
  rw [hz] at hp
  constructor
  · have h1 := hp.map strOf
    have e1 : (es.map Prod.fst).map strOf = strKeys (.map es) := by simp [strKeys]
    have e2 : (langT.map Lit.string).map strOf = langT := by rfl
    rwa [e1, e2] at h1
  · have h1 := hp.length_eq
    simp at h1
    exact h1

/-- What the program's tables hold when a call begins. -/
def Ready9 (w : World) : Prop := Spans w
theorem Ready9.below {w w' : World} (h : Ready9 w) (hb : Below w.heap.size w w') : Ready9 w' := Spans.below h hb

set_option maxRecDepth 20000 in
set_option maxHeartbeats 3200000 in
theorem prLanguages9_any (w : World) : Calls Tryd.prog 9 #[] w fun e w' => ∃ A c, e = .returned (.slice A 10 c) ∧ Arr sv w' w'.heap.size (.slice A 10 c) langT ∧ Below w.heap.size w w' := by
  have H := Lib.hid (articles_any w)
  go_enter Tryd.func9, Tryd.ntmps9
  go_wp2_with fail
  refine H.out.mono ?_
  rintro e w1 ⟨D, rfl, hA, k1⟩
  obtain ⟨hp, hsz⟩ := keys_of hA
  have HK := Lib.hid (mapsKeys_any (some w.heap.size) w1)
  have HS := Lib.hid (sortedKeys_any w.heap.size 10 D w1 hA.map (by rw [hsz]; unfold maxLen; omega) (by rw [hsz]; omega))
  have HP := Lib.hid hp
  clear hp hsz hA H
  go_wp2_with fail
  refine HK.out.mono ?_
  rintro e w2 ⟨rfl, rfl⟩
  go_wp2_with fail
  refine HS.out.mono ?_
  rintro e w3 ⟨v, ss, rfl, hss, hrow, -, k3⟩
  have hl : ss.length = langT.length := (hss.trans HP.out).length_eq
  have hm : ss.mergeSort (fun x y => decide (x ≤ y)) = langT := (mergeSort_of_perm (hss.trans HP.out)).trans langs_sorted
  rw [hm, hl] at hrow
  have hArr : Arr sv w3 w3.heap.size v langT := Arr.of_own hrow
  obtain ⟨A, c, rfl⟩ := hArr.form
  have HA := Lib.hid hArr
  have hb : Below w.heap.size w w3 := (k1.alloc k1.size _).trans (k3.mono (by have := k1.size; simp; omega))
  clear hArr hrow hss hm hl k3
  go_wp2
  go_ret
  exact ⟨_, _, rfl, HA.out, hb⟩

set_option maxRecDepth 20000 in
set_option maxHeartbeats 3200000 in
theorem prArticles9_any (lang : List UInt8) (w : World) (hl : lang.length ≤ 1000) : Calls Tryd.prog 7 #[.string (str lang)] w fun e w' => ∃ A n c, e = .returned (.slice A n c) ∧ Arr sv w' w'.heap.size (.slice A n c) (artsOf lang) ∧ Below w.heap.size w w' := by
  have H := Lib.hid (articles_any w)
  go_enter Tryd.func7, Tryd.ntmps7
  go_wp2_with fail
  refine H.out.mono ?_
  rintro e w1 ⟨D, rfl, hA, k1⟩
  obtain ⟨A, n, c, hrun, hArr⟩ := hA.look lang (by omega)
  have HA := Lib.hid hArr
  clear hA hArr H
  go_wp2
  go_ret
  exact ⟨_, _, _, rfl, HA.out, k1⟩

end Go.Proofs.YtmgofhbdaopapaaDoor
