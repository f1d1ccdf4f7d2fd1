/-
  Collation by bytes: tailorings, the primary weights, the key, the comparison, the sorting.
  What the document promises of collation, by bytes: levels, beginnings, letters.
  The program's weights of letters.
  The library's search for a byte.
-/
import Derived.Test.YtafnjbmeponobaaGreatDoorPkAK
import Derived.Test.YtafnjbmeponobaaGreatDoorPkAJ
import Derived.Test.YtafnjbmeponobaaGreatDoorPkAH
import Derived.Lib.Bytealg
import Derived.Lib.IndexLaws
import Derived.Lib.IndexBytes
namespace Go.Proofs.YtafnjbmeponobaaGreatDoor

abbrev RuleL := List UInt8 × List UInt8
/-- No two rules have the same From. -/
def distB : List RuleL → Bool
  | [] => true
  | x :: t => (t.all fun y => decide (y.1 ≠ x.1)) && distB t
theorem dist_of : ∀ {t : List RuleL}, distB t = true → ∀ (i j : Nat) (x y : RuleL), t[i]? = some x → t[j]? = some y → x.1 = y.1 → i = j
  | [], _, i, _, _, _, h, _, _ => by simp at h
  | z :: t, h, i, j, x, y, hi, hj, hxy => by
    rw [distB, Bool.and_eq_true, List.all_eq_true] at h
    have hne : ∀ y ∈ t, y.1 ≠ z.1 := fun y hy => of_decide_eq_true (h.1 y hy)
    cases i with
    | zero =>
      simp at hi
      subst hi
      cases j with
      | zero => rfl
      | succ j =>
        rw [List.getElem?_cons_succ] at hj
        exact absurd hxy.symm (hne y (List.mem_of_getElem? hj))
    | succ i =>
      rw [List.getElem?_cons_succ] at hi
      cases j with
      | zero =>
        simp at hj
        subst hj
        exact absurd hxy (hne x (List.mem_of_getElem? hi))
      | succ j =>
        rw [List.getElem?_cons_succ] at hj
        rw [dist_of h.2 i j x y hi hj hxy]
def isTok (s : List UInt8) : Bool := decide (s ≠ []) && decide (nSearch s = s)
def headB (l : List Nat) : Bool := match l with | c :: _ => Nat.beq (kN c) 1 | [] => false
/-- The Text of a letter; its After. -/
def textB (s : List UInt8) : Bool := match decR s with | some l => Nat.ble l.length 4 && headB l && decide (nD s = s) && decide (nFold s = s) | none => false
def afterB (s : List UInt8) : Bool := match decR s with | some l => Nat.beq l.length 1 && headB l && isTok s | none => false
def letB (x : RuleL) : Bool := textB x.1 && afterB x.2
def preT (t : List RuleL) : Bool := t.all letB && distB t
def validT (t : List RuleL) : Bool := preT t && decide (t.length ≤ 40)
def letL (x : RuleL) : LetL := (nL x.1, (nL x.2).headD 0)
theorem text_facts {s : List UInt8} (h : textB s = true) : ∃ c l, decR s = some (c :: l) ∧ nL s = c :: l ∧ (c :: l).length ≤ 4 ∧ kN c = 1 ∧ Dec (c :: l) ∧ foldL (c :: l) = c :: l ∧ encL (c :: l) = s := by
  unfold textB at h
  cases hd : decR s with
  | none => rw [hd] at h; cases h
  | some l =>
    rw [hd] at h
    simp only [Bool.and_eq_true, decide_eq_true_eq] at h
    obtain ⟨⟨⟨h1, h2⟩, h3⟩, h4⟩ := h
    have hn : nL s = l := by unfold nL; rw [hd]; rfl
    obtain ⟨he, _⟩ := enc_dec hd
    cases l with
    | nil => cases h2
    | cons c l =>
      have hdc : dcF (c :: l) = c :: l := by
        have h5 := nL_nD s
        rw [h3, hn] at h5
        exact h5.symm
      have hD : Dec (c :: l) := by
        have := dec_dc s
        rw [hn, hdc] at this
        exact this
      have hf : foldL (c :: l) = c :: l := by
        have h5 := nL_nFold s
        rw [h4, hn] at h5
        unfold nFL at h5
        rw [hn, hdc] at h5
        exact h5.symm
      exact ⟨c, l, rfl, hn, by rw [Nat.ble_eq] at h1; exact h1, of_beq h2, hD, hf, he⟩
theorem after_facts {s : List UInt8} (h : afterB s = true) : ∃ c, decR s = some [c] ∧ nL s = [c] ∧ kN c = 1 ∧ GoodE c ∧ encL [c] = s := by
  unfold afterB at h
  cases hd : decR s with
  | none => rw [hd] at h; cases h
  | some l =>
    rw [hd] at h
    unfold isTok at h
    simp only [Bool.and_eq_true, decide_eq_true_eq] at h
    obtain ⟨⟨h1, h2⟩, _, h4⟩ := h
    have hn : nL s = l := by unfold nL; rw [hd]; rfl
    obtain ⟨he, _⟩ := enc_dec hd
    match l, of_beq h1, h2, hn, he with
    | [c], _, h2, hn, he =>
      have h5 := nL_nSearch s
      rw [h4, hn] at h5
      have hk := of_beq h2
      have hm : c ∈ nSL s := by rw [← h5]; simp
      rcases search_mem (dec_dc s) hm with k | k
      · subst k
        have : kN 32 ≠ 1 := by decide +kernel
        exact absurd hk this
      · exact ⟨c, rfl, hn, hk, k, he⟩
theorem valid_let {t : List RuleL} (h : validT t = true) : LetOk (t.map letL) := by
  unfold validT preT at h
  simp only [Bool.and_eq_true, decide_eq_true_eq, List.all_eq_true] at h
  obtain ⟨⟨h1, h2⟩, h3⟩ := h
  have hx : ∀ x ∈ t, textB x.1 = true ∧ afterB x.2 = true := fun x hx => by
    have := h1 x hx
    unfold letB at this
    rwa [Bool.and_eq_true] at this
  refine ⟨fun y hy => ?_, fun y hy => ?_, fun y hy => ?_, fun y hy => ?_, fun i j y z hi hj hyz => ?_, by rw [List.length_map]; exact h3⟩
  · obtain ⟨x, hxm, rfl⟩ := List.mem_map.1 hy
    obtain ⟨c, l, _, k2, k3, _⟩ := text_facts (hx x hxm).1
    show 0 < (nL x.1).length ∧ (nL x.1).length ≤ 4
    rw [k2]
    exact ⟨by simp, k3⟩
  · obtain ⟨x, hxm, rfl⟩ := List.mem_map.1 hy
    obtain ⟨c, l, _, k2, _, _, k5, k6, _⟩ := text_facts (hx x hxm).1
    show Dec (nL x.1) ∧ foldL (nL x.1) = nL x.1
    rw [k2]
    exact ⟨k5, k6⟩
  · obtain ⟨x, hxm, rfl⟩ := List.mem_map.1 hy
    obtain ⟨c, l, _, k2, _, k4, _⟩ := text_facts (hx x hxm).1
    exact ⟨c, l, k2, k4⟩
  · obtain ⟨x, hxm, rfl⟩ := List.mem_map.1 hy
    obtain ⟨c, _, k2, k3, k4, _⟩ := after_facts (hx x hxm).2
    show GoodE ((nL x.2).headD 0) ∧ kN ((nL x.2).headD 0) = 1
    rw [k2]
    exact ⟨k4, k3⟩
  · rw [List.getElem?_map] at hi hj
    obtain ⟨x, hxi, rfl⟩ := Option.map_eq_some_iff.1 hi
    obtain ⟨x', hxj, rfl⟩ := Option.map_eq_some_iff.1 hj
    obtain ⟨c, l, _, k2, _, _, _, _, k7⟩ := text_facts (hx x (List.mem_of_getElem? hxi)).1
    obtain ⟨c', l', _, k2', _, _, _, _, k7'⟩ := text_facts (hx x' (List.mem_of_getElem? hxj)).1
    refine dist_of h2 i j x x' hxi hxj ?_
    rw [← k7, ← k7', ← k2, ← k2']
    exact congrArg encL hyz

/-! The functions. -/
def goodT (t : List RuleL) (s : List UInt8) : Bool := (decR s).isSome && validT t
def elsT (t : List RuleL) (s : List UInt8) : List El := elemsL (t.map letL) (dcF (nL s))
def nPrim (t : List RuleL) (s : List UInt8) : List Nat := if goodT t s = true then primL (elsT t s) else []
def nKey (t : List RuleL) (s : List UInt8) : List UInt8 := if goodT t s = true then (keyN (elsT t s) (nD s)).map UInt8.ofNat else []
def nCmp (t : List RuleL) (a b : List UInt8) : Int := if goodT t a = true ∧ goodT t b = true then cmpE (elsT t a) (elsT t b) (nD a) (nD b) else 0
theorem dc_facts (s : List UInt8) : ∀ c ∈ dcF (nL s), hasN c = true ∧ wholeR c = [c] := fun c hc => ⟨(dec_dc s).1 c hc, (dec_dc s).2.1 c hc⟩
theorem els_ok {t : List RuleL} (h : validT t = true) (s : List UInt8) : ∀ e ∈ elsT t s, e.1 ≤ 10000041 ∧ 1 ≤ e.2.1 ∧ e.2.1 ≤ 255 ∧ 1 ≤ e.2.2 ∧ e.2.2 ≤ 2 := elems_ok (valid_let h) _ _ (dc_facts s)
theorem els_pos {t : List RuleL} (h : validT t = true) (s : List UInt8) : ∀ e ∈ elsT t s, 0 < e.2.1 ∧ 0 < e.2.2 := fun e he => by have := els_ok h s e he; omega
theorem nCmp_self (t : List RuleL) (a : List UInt8) : nCmp t a a = 0 := by
  unfold nCmp
  split
  · exact cmp_self _ _
  · rfl
theorem nCmp_neg (t : List RuleL) (a b : List UInt8) : nCmp t b a = -(nCmp t a b) := by
  unfold nCmp
  by_cases h : goodT t a = true ∧ goodT t b = true
  · rw [if_pos h, if_pos ⟨h.2, h.1⟩]; exact cmp_neg _ _ _ _
  · rw [if_neg h, if_neg (fun h2 => h ⟨h2.2, h2.1⟩)]; rfl
theorem nCmp_vals (t : List RuleL) (a b : List UInt8) : nCmp t a b = -1 ∨ nCmp t a b = 0 ∨ nCmp t a b = 1 := by
  unfold nCmp
  split
  · rename_i h
    have hv : validT t = true := by have := h.1; unfold goodT at this; rw [Bool.and_eq_true] at this; exact this.2
    exact cmp_vals (els_pos hv a) (els_pos hv b) _ _
  · exact .inr (.inl rfl)
theorem good_parts {t : List RuleL} {s : List UInt8} (h : goodT t s = true) : (decR s).isSome = true ∧ validT t = true := by
  unfold goodT at h
  rwa [Bool.and_eq_true] at h
/-- 0 just for equal strings. -/
theorem nCmp_zero {t : List RuleL} {a b : List UInt8} (ha : goodT t a = true) (hb : goodT t b = true) : nCmp t a b = 0 ↔ nD a = nD b := by
  unfold nCmp
  rw [if_pos ⟨ha, hb⟩]
  have key : ∀ {x y : List UInt8}, nD x = nD y → dcF (nL x) = dcF (nL y) := fun {x y} h => by
    have := congrArg nL h
    rwa [nL_nD, nL_nD] at this
  have hz := cmp_zero (t := t.map letL) (d := dcF (nL a)) (e := dcF (nL b)) (fun h => key h)
  exact hz.trans ⟨fun h => by unfold nD; rw [h], fun h => key h⟩
/-- Transitive. -/
theorem nCmp_trans {t : List RuleL} {a b c : List UInt8} (ha : goodT t a = true) (hb : goodT t b = true) (hc : goodT t c = true) : (0 < nCmp t a b ∨ 0 < nCmp t b c ∨ nCmp t a c ≤ 0) ∧ (0 ≤ nCmp t a b ∨ 0 ≤ nCmp t b c ∨ nCmp t a c < 0) := by
  have hv := (good_parts ha).2
  have tr : nCmp t a b = -1 → nCmp t b c = -1 → nCmp t a c = -1 := by
    unfold nCmp
    rw [if_pos ⟨ha, hb⟩, if_pos ⟨hb, hc⟩, if_pos ⟨ha, hc⟩]
    exact cmp_trans (els_pos hv a) (els_pos hv b) (els_pos hv c)
  have same1 : nCmp t a b = 0 → nCmp t a c = nCmp t b c := fun h => by
    have h1 := (nCmp_zero ha hb).1 h
    have h2 : dcF (nL a) = dcF (nL b) := by have := congrArg nL h1; rwa [nL_nD, nL_nD] at this
    unfold nCmp elsT
    rw [if_pos ⟨ha, hc⟩, if_pos ⟨hb, hc⟩, h2, h1]
  have same2 : nCmp t b c = 0 → nCmp t a c = nCmp t a b := fun h => by
    have h1 := (nCmp_zero hb hc).1 h
    have h2 : dcF (nL b) = dcF (nL c) := by have := congrArg nL h1; rwa [nL_nD, nL_nD] at this
    unfold nCmp elsT
    rw [if_pos ⟨ha, hc⟩, if_pos ⟨ha, hb⟩, h2, h1]
  rcases nCmp_vals t a b with h1 | h1 | h1
  · rcases nCmp_vals t b c with h2 | h2 | h2
    · have := tr h1 h2; omega
    · have := same2 h2; omega
    · omega
  · have := same1 h1
    rcases nCmp_vals t b c with h2 | h2 | h2 <;> omega
  · omega
/-- The order of the keys, byte by byte. -/
theorem ofNat_key {l : List Nat} (h : ∀ x ∈ l, x < 256) : (l.map UInt8.ofNat).map (fun x => x.toNat) = l := by
  rw [List.map_map]
  conv => rhs; rw [← List.map_id l]
  apply List.map_congr_left
  intro x hx
  show (UInt8.ofNat x).toNat = x
  rw [UInt8.toNat_ofNat']
  exact Nat.mod_eq_of_lt (h x hx)
theorem key_bytes {t : List RuleL} (h : validT t = true) (s : List UInt8) : ∀ x ∈ keyN (elsT t s) (nD s), x < 256 := by
  intro x hx
  have hok := els_ok h s
  unfold keyN at hx
  simp only [List.mem_append, List.mem_cons] at hx
  rcases hx with hx | hx | hx | hx | hx | hx | hx
  · obtain ⟨p, hp, hx⟩ := List.mem_flatMap.1 hx
    have hp2 : ∃ e ∈ elsT t s, e.1 = p := List.mem_map.1 (List.mem_filter.1 hp).1
    obtain ⟨e, he, rfl⟩ := hp2
    have := hok e he
    simp only [three, List.mem_cons, List.not_mem_nil, or_false] at hx
    omega
  · simp only [three, List.mem_cons, List.not_mem_nil, or_false] at hx
    omega
  · obtain ⟨e, he, rfl⟩ := List.mem_map.1 hx
    have := hok e he
    omega
  · omega
  · obtain ⟨e, he, rfl⟩ := List.mem_map.1 hx
    have := hok e he
    omega
  · omega
  · obtain ⟨b, _, rfl⟩ := List.mem_map.1 hx
    exact b.toNat_lt
theorem nKey_order {t : List RuleL} {a b : List UInt8} (ha : goodT t a = true) (hb : goodT t b = true) : ordB (nKey t a) (nKey t b) = nCmp t a b := by
  have hv := (good_parts ha).2
  unfold nKey nCmp ordB
  rw [if_pos ha, if_pos hb, if_pos ⟨ha, hb⟩, ofNat_key (key_bytes hv a), ofNat_key (key_bytes hv b)]
  exact key_order (els_pos hv a) (els_pos hv b) _ _

end Go.Proofs.YtafnjbmeponobaaGreatDoor

namespace Go.Proofs.YtafnjbmeponobaaGreatDoor

theorem good_root {s : List UInt8} (h : (decR s).isSome = true) : goodT [] s = true := by unfold goodT; rw [h]; rfl
theorem dec_enc_some {l : List Nat} (h : ∀ c ∈ l, hasN c = true) : (decR (encL l)).isSome = true := by rw [dec_enc l fun c hc => ok_of_has (h c hc)]; rfl
theorem nL_encL {l : List Nat} (h : ∀ c ∈ l, hasN c = true) : nL (encL l) = l := nL_enc fun c hc => ok_of_has (h c hc)
theorem els_root_of {s : List UInt8} {d : List Nat} (h : nL s = d) (hd : Dec d) : elsT [] s = elemsL [] d ∧ nD s = encL d := by
  unfold elsT nD
  rw [h, dc_dec hd]
  exact ⟨rfl, rfl⟩
theorem dc_no {l : List Nat} (h : ∀ c ∈ l, hasN c = true) (hno : ∀ c ∈ l, c ≠ 223 ∧ c ≠ 962) : ∀ c ∈ dcF l, c ≠ 223 ∧ c ≠ 962 := by
  intro c hc
  obtain ⟨x, hx, hy⟩ := mem_dcF.1 hc
  exact whole_no (h x hx) (hno x hx).1 (hno x hx).2 hy
theorem col_levels {l : List Nat} (hl : ∀ c ∈ l, hasN c = true) (hno : ∀ c ∈ l, c ≠ 223 ∧ c ≠ 962) :
    nPrim [] (nFold (encL l)) = nPrim [] (encL l) ∧ nPrim [] (nStrip (encL l)) = nPrim [] (encL l) ∧ nCmp [] (nFold (encL l)) (encL l) ≤ 0 ∧ nCmp [] (nStrip (encL l)) (encL l) ≤ 0 := by
  have hs := good_root (dec_enc_some hl)
  have hn := nL_encL hl
  have hD : Dec (dcF l) := by have := dec_dc (encL l); rwa [hn] at this
  have hf : goodT [] (nFold (encL l)) = true := good_root (dec_enc_some (nFL_dec _).1)
  have hst : nL (nStrip (encL l)) = (dcF l).filter fun c => !isM c := by rw [nL_strip, hn]
  have hu : goodT [] (nStrip (encL l)) = true := good_root (by
    show (decR (encL ((dcF (nL (encL l))).filter fun c => !isM c))).isSome = true
    rw [hn]
    exact dec_enc_some (strip_dec hD).1)
  have e1 : elsT [] (encL l) = elemsL [] (dcF l) ∧ nD (encL l) = encL (dcF l) := by unfold elsT nD; rw [hn]; exact ⟨rfl, rfl⟩
  have e2 := els_root_of (nL_nFold (encL l)) (nFL_dec _)
  have e3 := els_root_of hst (strip_dec hD)
  have hfl : nFL (encL l) = foldL (dcF l) := by unfold nFL; rw [hn]
  rw [hfl] at e2
  have hall : ∀ c ∈ dcF l, hasN c = true ∧ wholeR c = [c] ∧ c ≠ 223 ∧ c ≠ 962 := fun c hc => ⟨hD.1 c hc, hD.2.1 c hc, dc_no hl hno c hc⟩
  obtain ⟨a1, a2⟩ := fold_levels hall
  obtain ⟨b1, b2⟩ := strip_levels fun c hc => ⟨(hall c hc).1, (hall c hc).2.1⟩
  unfold nPrim nCmp
  rw [if_pos hs, if_pos hf, if_pos hu, if_pos ⟨hf, hs⟩, if_pos ⟨hu, hs⟩, e1.1, e1.2, e2.1, e2.2, e3.1, e3.2]
  exact ⟨a1, b1, a2, b2⟩
theorem dc_head {c : Nat} (r : List Nat) (h : isM c = false) : ∃ b z, dcF (c :: r) = b :: z ∧ kN b ≠ 2 := by
  obtain ⟨b, ms, hw⟩ : ∃ b ms, wholeR c = b :: ms := by
    cases hw : wholeR c with
    | nil => exact absurd hw (whole_ne c)
    | cons b ms => exact ⟨b, ms, rfl⟩
  have hb : clM b = 0 := whole_head (isM_zero.1 h) (by rw [hw]; rfl)
  refine ⟨b, (sortB clM [] (ms ++ r.flatMap wholeR)).reverse, ?_, fun hk => ?_⟩
  · unfold dcF
    rw [List.flatMap_cons, hw]
    exact sort_first hb _
  · have := isM_kind.2 hk
    rw [isM_zero.2 hb] at this
    cases this
theorem col_begin {l : List Nat} (hl : ∀ c ∈ l, hasN c = true) {k c : Nat} (hk : l[k]? = some c) (hm : kN c ≠ 2) : nCmp [] (encL (l.take k)) (encL l) = -1 := by
  have ht : ∀ x ∈ l.take k, hasN x = true := fun x hx => hl x (List.mem_of_mem_take hx)
  have hs := good_root (dec_enc_some hl)
  have hp := good_root (dec_enc_some ht)
  have hM : isM c = false := by
    cases h : isM c with
    | false => rfl
    | true => exact absurd (isM_kind.1 h) hm
  obtain ⟨hkl, hkc⟩ := List.getElem?_eq_some_iff.1 hk
  have hd : l.drop k = c :: l.drop (k + 1) := by
    have := List.drop_eq_getElem_cons hkl
    rwa [hkc] at this
  have hj : dcF l = dcF (l.take k) ++ dcF (l.drop k) := by
    conv => lhs; rw [← List.take_append_drop k l]
    refine dcF_join _ _ fun x hx => ?_
    rw [hd] at hx
    rw [← Option.some.inj hx]
    exact isM_zero.1 hM
  have hD : Dec (dcF l) := by have := dec_dc (encL l); rwa [nL_encL hl] at this
  obtain ⟨b, z, hbz, hkb⟩ := dc_head (l.drop (k + 1)) hM
  unfold nCmp elsT nD
  rw [if_pos ⟨hp, hs⟩, nL_encL hl, nL_encL ht, hj]
  refine begin_less (fun x hx => ?_) ⟨b, by rw [hd, hbz]; rfl, hkb⟩ _ _
  have hxm : x ∈ dcF l := by rw [hj]; exact List.mem_append_right _ hx
  exact ⟨hD.1 x hxm, hD.2.1 x hxm⟩
theorem col_letters {t : List RuleL} (hv : validT t = true) {k : Nat} {x : RuleL} (hx : t[k]? = some x) {r : List UInt8} (hr : (decR r).isSome = true) (hlong : ∀ y ∈ t, y.1.length ≤ x.1.length) (h1 : ∀ y ∈ t, y.1 ≠ x.2) (h2 : ∀ y ∈ t, y.1 ≠ x.2 ++ [57]) :
    ∃ q p, nPrim t (x.1 ++ 32 :: r) = (q + k + 1) :: p ∧ nPrim t x.2 = [q] ∧ nCmp t x.2 (x.1 ++ 32 :: r) = -1 ∧ nCmp t (x.2 ++ [57]) (x.1 ++ 32 :: r) = -1 := by
  have ht := valid_let hv
  have hparts : ∀ y ∈ t, textB y.1 = true ∧ afterB y.2 = true := fun y hy => by
    unfold validT preT at hv
    simp only [Bool.and_eq_true, List.all_eq_true] at hv
    have := hv.1.1 y hy
    unfold letB at this
    rwa [Bool.and_eq_true] at this
  have hxm := List.mem_of_getElem? hx
  obtain ⟨c, z, c1, c2, c3, c4, c5, c6, c7⟩ := text_facts (hparts x hxm).1
  obtain ⟨a, a1, a2, a3, a4, a5⟩ := after_facts (hparts x hxm).2
  have hxl : (t.map letL)[k]? = some (letL x) := by rw [List.getElem?_map, hx]; rfl
  have hlx : letL x = (c :: z, a) := by unfold letL; rw [c2, a2]; rfl
  have henc : ∀ y ∈ t, encL (nL y.1) = y.1 := fun y hy => by
    obtain ⟨_, _, _, k2, _, _, _, _, k7⟩ := text_facts (hparts y hy).1
    rw [k2]; exact k7
  have hd1 : (decR x.1).isSome = true := by rw [c1]; rfl
  have hd2 : (decR x.2).isSome = true := by rw [a1]; rfl
  have h57 : decR [57] = some [57] := by kernel_rfl
  have hd3 : (decR (x.2 ++ [57])).isSome = true := by rw [dec_app a1, h57]; rfl
  have hd4 : (decR (x.1 ++ 32 :: r)).isSome = true := by
    obtain ⟨lr, hlr⟩ := Option.isSome_iff_exists.1 hr
    have e : x.1 ++ 32 :: r = x.1 ++ ([32] ++ r) := rfl
    rw [e, dec_app c1, dec_app dec_blank, hlr]
    rfl
  have g1 : goodT t (x.1 ++ 32 :: r) = true := by unfold goodT; rw [hd4, hv]; rfl
  have g2 : goodT t x.2 = true := by unfold goodT; rw [hd2, hv]; rfl
  have g3 : goodT t (x.2 ++ [57]) = true := by unfold goodT; rw [hd3, hv]; rfl
  have e1 : elsT t (x.1 ++ 32 :: r) = elemsL (t.map letL) ((letL x).1 ++ 32 :: dcF (nL r)) := by
    unfold elsT
    rw [nL_blank hd1 hr, dc_blank, c2, dc_dec c5, hlx]
  have hDa : Dec [a] := ⟨fun y hy => by rw [List.mem_singleton.1 hy]; exact a4.has, fun y hy => by rw [List.mem_singleton.1 hy]; exact a4.whole, trivial⟩
  have e2 : elsT t x.2 = elemsL (t.map letL) [(letL x).2] := by
    unfold elsT
    rw [a2, dc_dec hDa, hlx]
  have hcl : clM 57 = 0 ∧ hasN 57 = true ∧ wholeR 57 = [57] := by decide +kernel
  have hDb : Dec [a, 57] := by
    refine ⟨fun y hy => ?_, fun y hy => ?_, srt_base _ fun y hy => ?_⟩
    · rcases List.mem_cons.1 hy with rfl | hy
      · exact a4.has
      · rw [List.mem_singleton.1 hy]; exact hcl.2.1
    · rcases List.mem_cons.1 hy with rfl | hy
      · exact a4.whole
      · rw [List.mem_singleton.1 hy]; exact hcl.2.2
    · rcases List.mem_cons.1 (List.mem_reverse.1 hy) with rfl | hy
      · exact a4.cls
      · rw [List.mem_singleton.1 hy]; exact hcl.1
  have hnb : nL (x.2 ++ [57]) = [a, 57] := by
    rw [nL_app hd2 (by rw [h57]; rfl), a2]
    have : nL [57] = [57] := by unfold nL; rw [h57]; rfl
    rw [this]; rfl
  have e3 : elsT t (x.2 ++ [57]) = elemsL (t.map letL) [(letL x).2, 57] := by
    unfold elsT
    rw [hnb, dc_dec hDb, hlx]
  have hl1 : ∀ y ∈ t.map letL, (encL y.1).length ≤ (encL (letL x).1).length := fun y hy => by
    obtain ⟨u, hu, rfl⟩ := List.mem_map.1 hy
    show (encL (nL u.1)).length ≤ (encL (nL x.1)).length
    rw [henc u hu, henc x hxm]
    exact hlong u hu
  have hl2 : ∀ y ∈ t.map letL, y.1 ≠ [(letL x).2] := fun y hy => by
    obtain ⟨u, hu, rfl⟩ := List.mem_map.1 hy
    intro he
    refine h1 u hu ?_
    rw [← henc u hu, show nL u.1 = [(letL x).2] from he, hlx]
    exact a5
  have h57e : encL [57] = [57] := by kernel_rfl
  have hl3 : ∀ y ∈ t.map letL, y.1 ≠ [(letL x).2, 57] := fun y hy => by
    obtain ⟨u, hu, rfl⟩ := List.mem_map.1 hy
    intro he
    refine h2 u hu ?_
    rw [← henc u hu, show nL u.1 = [(letL x).2, 57] from he, hlx]
    show encL ([a] ++ [57]) = _
    rw [encL_app, a5, h57e]
  obtain ⟨⟨p, p1⟩, p2, p3, p4⟩ := letters_order ht hxl hl1 hl2 hl3 (dcF (nL r)) (nD x.2) (nD (x.1 ++ 32 :: r)) (nD (x.2 ++ [57]))
  refine ⟨primOf (letL x).2, p, ?_, ?_, ?_, ?_⟩
  · unfold nPrim; rw [if_pos g1, e1]; exact p1
  · unfold nPrim; rw [if_pos g2, e2]; exact p2
  · unfold nCmp; rw [if_pos ⟨g2, g1⟩, e1, e2]; exact p3
  · unfold nCmp; rw [if_pos ⟨g3, g1⟩, e1, e3]; exact p4

end Go.Proofs.YtafnjbmeponobaaGreatDoor

namespace Go.Proofs.YtafnjbmeponobaaGreatDoor
open Go.RowKit

def lwI (x : Int) : Int :=
  if 945 ≤ x ∧ x ≤ 969 then 50000 + 100 * (x - 945)
  else if 1072 ≤ x ∧ x ≤ 1103 then 60000 + 200 * (x - 1072)
  else if x = 1108 then 61100 else if x = 1110 then 61700 else if x = 1169 then 60700 else 30000 + 100 * (x - 97)

set_option maxRecDepth 20000 in
set_option maxHeartbeats 1600000 in
theorem prOneIf_any (b : Bool) (w : World) : Calls Tryz.prog 78 #[.bool b] w fun e w' => e = .returned (.int .i64 (if b = true then 1 else 2)) ∧ w = w' := by
  cases b
  · show Calls Tryz.prog _ _ w fun e w' => e = .returned (.int .i64 2) ∧ w = w'
    go_enter Tryz.func78, Tryz.ntmps78
    go_wp2
    go_ret
    exact ⟨rfl, rfl⟩
  · show Calls Tryz.prog _ _ w fun e w' => e = .returned (.int .i64 1) ∧ w = w'
    go_enter Tryz.func78, Tryz.ntmps78
    go_wp2
    go_ret
    exact ⟨rfl, rfl⟩

set_option maxRecDepth 20000 in
set_option maxHeartbeats 1600000 in
theorem prBehind_5 (w : World) : Calls Tryz.prog 97 #[.int .i64 5] w fun e w' => e = .returned (.int .i64 61100) ∧ w = w' := by
  go_enter Tryz.func97, Tryz.ntmps97
  go_wp2
  go_ret
  exact ⟨rfl, rfl⟩

set_option maxRecDepth 20000 in
set_option maxHeartbeats 1600000 in
theorem prBehind_8 (w : World) : Calls Tryz.prog 97 #[.int .i64 8] w fun e w' => e = .returned (.int .i64 61700) ∧ w = w' := by
  go_enter Tryz.func97, Tryz.ntmps97
  go_wp2
  go_ret
  exact ⟨rfl, rfl⟩

set_option maxRecDepth 20000 in
set_option maxHeartbeats 1600000 in
theorem prBehind_3 (w : World) : Calls Tryz.prog 97 #[.int .i64 3] w fun e w' => e = .returned (.int .i64 60700) ∧ w = w' := by
  go_enter Tryz.func97, Tryz.ntmps97
  go_wp2
  go_ret
  exact ⟨rfl, rfl⟩

set_option maxRecDepth 20000 in
set_option maxHeartbeats 1600000 in
theorem prWt_a (x : Int) (w : World) (h1 : 945 ≤ x) (h2 : x ≤ 969) : Calls Tryz.prog 72 #[.int .i64 x] w fun e w' => e = .returned (.int .i64 (50000 + 100 * (x - 945))) ∧ w = w' := by
  have g945 : decide ((945:Int) ≤ x) = true := by simp; omega
  have g969 : decide (x ≤ 969) = true := by simp; omega
  have s1 : IntKind.i64.wrap (x - 945) = x - 945 := wraps_i64 _ (by omega) (by omega)
  have s2 : IntKind.i64.wrap (100 * (x - 945)) = 100 * (x - 945) := wraps_i64 _ (by omega) (by omega)
  have s3 : IntKind.i64.wrap (50000 + 100 * (x - 945)) = 50000 + 100 * (x - 945) := wraps_i64 _ (by omega) (by omega)
  go_enter Tryz.func72, Tryz.ntmps72
  go_wp2
  go_ret
  exact ⟨rfl, rfl⟩

set_option maxRecDepth 20000 in
set_option maxHeartbeats 1600000 in
theorem prWt_b (x : Int) (w : World) (h1 : 1072 ≤ x) (h2 : x ≤ 1103) : Calls Tryz.prog 72 #[.int .i64 x] w fun e w' => e = .returned (.int .i64 (60000 + 200 * (x - 1072))) ∧ w = w' := by
  have g945 : decide ((945:Int) ≤ x) = true := by simp; omega
  have g969 : decide (x ≤ 969) = false := by simp; omega
  have g1072 : decide ((1072:Int) ≤ x) = true := by simp; omega
  have g1103 : decide (x ≤ 1103) = true := by simp; omega
  have s1 : IntKind.i64.wrap (x - 1072) = x - 1072 := wraps_i64 _ (by omega) (by omega)
  have s2 : IntKind.i64.wrap (200 * (x - 1072)) = 200 * (x - 1072) := wraps_i64 _ (by omega) (by omega)
  have s3 : IntKind.i64.wrap (60000 + 200 * (x - 1072)) = 60000 + 200 * (x - 1072) := wraps_i64 _ (by omega) (by omega)
  go_enter Tryz.func72, Tryz.ntmps72
  go_wp2
  go_ret
  exact ⟨rfl, rfl⟩

set_option maxRecDepth 20000 in
set_option maxHeartbeats 1600000 in
theorem prWt_lo (x : Int) (w : World) (h1 : 0 ≤ x) (h2 : x < 945) : Calls Tryz.prog 72 #[.int .i64 x] w fun e w' => e = .returned (.int .i64 (30000 + 100 * (x - 97))) ∧ w = w' := by
  have g945 : decide ((945:Int) ≤ x) = false := by simp; omega
  have g1072 : decide ((1072:Int) ≤ x) = false := by simp; omega
  have q1108 : (x == 1108) = false := by simp; omega
  have q1110 : (x == 1110) = false := by simp; omega
  have q1169 : (x == 1169) = false := by simp; omega
  have s1 : IntKind.i64.wrap (x - 97) = x - 97 := wraps_i64 _ (by omega) (by omega)
  have s2 : IntKind.i64.wrap (100 * (x - 97)) = 100 * (x - 97) := wraps_i64 _ (by omega) (by omega)
  have s3 : IntKind.i64.wrap (30000 + 100 * (x - 97)) = 30000 + 100 * (x - 97) := wraps_i64 _ (by omega) (by omega)
  go_enter Tryz.func72, Tryz.ntmps72
  go_wp2
  go_ret
  exact ⟨rfl, rfl⟩

set_option maxRecDepth 20000 in
set_option maxHeartbeats 1600000 in
theorem prWt_mid (x : Int) (w : World) (h1 : 969 < x) (h2 : x < 1072) : Calls Tryz.prog 72 #[.int .i64 x] w fun e w' => e = .returned (.int .i64 (30000 + 100 * (x - 97))) ∧ w = w' := by
  have g945 : decide ((945:Int) ≤ x) = true := by simp; omega
  have g969 : decide (x ≤ 969) = false := by simp; omega
  have g1072 : decide ((1072:Int) ≤ x) = false := by simp; omega
  have q1108 : (x == 1108) = false := by simp; omega
  have q1110 : (x == 1110) = false := by simp; omega
  have q1169 : (x == 1169) = false := by simp; omega
  have s1 : IntKind.i64.wrap (x - 97) = x - 97 := wraps_i64 _ (by omega) (by omega)
  have s2 : IntKind.i64.wrap (100 * (x - 97)) = 100 * (x - 97) := wraps_i64 _ (by omega) (by omega)
  have s3 : IntKind.i64.wrap (30000 + 100 * (x - 97)) = 30000 + 100 * (x - 97) := wraps_i64 _ (by omega) (by omega)
  go_enter Tryz.func72, Tryz.ntmps72
  go_wp2
  go_ret
  exact ⟨rfl, rfl⟩

set_option maxRecDepth 20000 in
set_option maxHeartbeats 1600000 in
theorem prWt_hi (x : Int) (w : World) (h1 : 1103 < x) (h2 : x ≤ 1000000) (n1 : x ≠ 1108) (n2 : x ≠ 1110) (n3 : x ≠ 1169) : Calls Tryz.prog 72 #[.int .i64 x] w fun e w' => e = .returned (.int .i64 (30000 + 100 * (x - 97))) ∧ w = w' := by
  have g945 : decide ((945:Int) ≤ x) = true := by simp; omega
  have g969 : decide (x ≤ 969) = false := by simp; omega
  have g1072 : decide ((1072:Int) ≤ x) = true := by simp; omega
  have g1103 : decide (x ≤ 1103) = false := by simp; omega
  have q1108 : (x == 1108) = false := by simp; omega
  have q1110 : (x == 1110) = false := by simp; omega
  have q1169 : (x == 1169) = false := by simp; omega
  have s1 : IntKind.i64.wrap (x - 97) = x - 97 := wraps_i64 _ (by omega) (by omega)
  have s2 : IntKind.i64.wrap (100 * (x - 97)) = 100 * (x - 97) := wraps_i64 _ (by omega) (by omega)
  have s3 : IntKind.i64.wrap (30000 + 100 * (x - 97)) = 30000 + 100 * (x - 97) := wraps_i64 _ (by omega) (by omega)
  go_enter Tryz.func72, Tryz.ntmps72
  go_wp2
  go_ret
  exact ⟨rfl, rfl⟩

set_option maxRecDepth 20000 in
set_option maxHeartbeats 1600000 in
theorem prWt_1108 (w : World) : Calls Tryz.prog 72 #[.int .i64 1108] w fun e w' => e = .returned (.int .i64 61100) ∧ w = w' := by
  have HB := Lib.hid (prBehind_5 w)
  go_enter Tryz.func72, Tryz.ntmps72
  go_wp2_with fail
  refine HB.out.mono ?_
  rintro e w1 ⟨rfl, rfl⟩
  go_wp2
  go_ret
  exact ⟨rfl, rfl⟩

set_option maxRecDepth 20000 in
set_option maxHeartbeats 1600000 in
theorem prWt_1110 (w : World) : Calls Tryz.prog 72 #[.int .i64 1110] w fun e w' => e = .returned (.int .i64 61700) ∧ w = w' := by
  have HB := Lib.hid (prBehind_8 w)
  go_enter Tryz.func72, Tryz.ntmps72
  go_wp2_with fail
  refine HB.out.mono ?_
  rintro e w1 ⟨rfl, rfl⟩
  go_wp2
  go_ret
  exact ⟨rfl, rfl⟩

set_option maxRecDepth 20000 in
set_option maxHeartbeats 1600000 in
theorem prWt_1169 (w : World) : Calls Tryz.prog 72 #[.int .i64 1169] w fun e w' => e = .returned (.int .i64 60700) ∧ w = w' := by
  have HB := Lib.hid (prBehind_3 w)
  go_enter Tryz.func72, Tryz.ntmps72
  go_wp2_with fail
  refine HB.out.mono ?_
  rintro e w1 ⟨rfl, rfl⟩
  go_wp2
  go_ret
  exact ⟨rfl, rfl⟩

theorem prWeight_any (x : Int) (w : World) (h0 : 0 ≤ x) (h1 : x ≤ 1000000) : Calls Tryz.prog 72 #[.int .i64 x] w fun e w' => e = .returned (.int .i64 (lwI x)) ∧ w = w' := by
  unfold lwI
  by_cases a : 945 ≤ x ∧ x ≤ 969
  · rw [if_pos a]; exact prWt_a x w a.1 a.2
  rw [if_neg a]
  by_cases b : 1072 ≤ x ∧ x ≤ 1103
  · rw [if_pos b]; exact prWt_b x w b.1 b.2
  rw [if_neg b]
  by_cases c : x = 1108
  · subst c; rw [if_pos rfl]; exact prWt_1108 w
  rw [if_neg c]
  by_cases d : x = 1110
  · subst d; rw [if_pos rfl]; exact prWt_1110 w
  rw [if_neg d]
  by_cases e : x = 1169
  · subst e; rw [if_pos rfl]; exact prWt_1169 w
  rw [if_neg e]
  by_cases f : x < 945
  · exact prWt_lo x w h0 f
  by_cases g : x < 1072
  · exact prWt_mid x w (by omega) g
  · exact prWt_hi x w (by omega) h1 c d e

/-! The weights of the document. -/
def lwN (x : Nat) : Nat :=
  if (Nat.ble 945 x && Nat.ble x 969) = true then 50000 + 100 * (x - 945)
  else if (Nat.ble 1072 x && Nat.ble x 1103) = true then 60000 + 200 * (x - 1072)
  else if Nat.beq x 1108 = true then 61100 else if Nat.beq x 1110 = true then 61700 else if Nat.beq x 1169 = true then 60700 else 30000 + 100 * (x - 97)
theorem lw_eq {x : Nat} (h : 97 ≤ x) : lwI (x : Int) = (lwN x : Int) := by
  unfold lwI lwN
  simp only [Bool.and_eq_true, Nat.ble_eq, Nat.beq_eq]
  have e1 : ((945 : Int) ≤ (x : Int) ∧ (x : Int) ≤ 969) ↔ (945 ≤ x ∧ x ≤ 969) := by omega
  have e2 : ((1072 : Int) ≤ (x : Int) ∧ (x : Int) ≤ 1103) ↔ (1072 ≤ x ∧ x ≤ 1103) := by omega
  have e3 : ((x : Int) = 1108) ↔ x = 1108 := by omega
  have e4 : ((x : Int) = 1110) ↔ x = 1110 := by omega
  have e5 : ((x : Int) = 1169) ↔ x = 1169 := by omega
  simp only [e1, e2, e3, e4, e5]
  split
  · omega
  split
  · omega
  split
  · rfl
  split
  · rfl
  split
  · rfl
  · omega
def okWt (c : Nat) : Bool := !(is1 (wholeR c) c) || !Nat.beq (kN c) 1 || (Nat.ble 97 (lowN c) && Nat.ble (lowN c) 100000 && Nat.ble c 100000 &&
  (if Nat.beq (scN c) 1 = true then elsB (singleL c) (latL c) && ((seaN c).all fun x => Nat.ble 97 x && Nat.ble x 122) && Nat.ble (seaN c).length 3 else elsB (singleL c) [(lwN (lowN c), 1, capN c)]))
theorem chars_wt : (charL.all okWt) = true := by kernel_rfl
def okAf (c : Nat) : Bool := !(Nat.beq (kN c) 1 && is1 (seaN c) c) || (Nat.beq (primOf c) (lwN c) && Nat.ble 97 c)
theorem chars_af : (charL.all okAf) = true := by kernel_rfl
/-- The elements of a letter of a decomposed form. -/
theorem wt_single {c : Nat} (hc : hasN c = true) (hw : wholeR c = [c]) (hk : kN c = 1) : 97 ≤ lowN c ∧ lowN c ≤ 100000 ∧ c ≤ 100000 ∧
    ((scN c = 1 ∧ singleL c = latL c ∧ (∀ x ∈ seaN c, 97 ≤ x ∧ x ≤ 122) ∧ (seaN c).length ≤ 3) ∨ (scN c ≠ 1 ∧ singleL c = [(lwN (lowN c), 1, capN c)])) := by
  have h := List.all_eq_true.1 chars_wt c ((char_mem c).2 hc)
  unfold okWt at h
  rw [is1_of hw, hk] at h
  simp only [Bool.not_true, Bool.false_or, beq_true] at h
  simp only [Bool.and_eq_true, Nat.ble_eq] at h
  obtain ⟨⟨⟨h1, h2⟩, h3⟩, h4⟩ := h
  refine ⟨h1, h2, h3, ?_⟩
  by_cases hs : scN c = 1
  · rw [if_pos (beq_of hs)] at h4
    simp only [Bool.and_eq_true, Nat.ble_eq, List.all_eq_true] at h4
    exact .inl ⟨hs, els_eq h4.1.1, h4.1.2, h4.2⟩
  · rw [if_neg (by rw [beq_false hs]; exact Bool.false_ne_true)] at h4
    exact .inr ⟨hs, els_eq h4⟩
theorem af_weight {c : Nat} (h : GoodE c) (hk : kN c = 1) : primOf c = lwN c ∧ 97 ≤ c := by
  have h2 := List.all_eq_true.1 chars_af c ((char_mem c).2 h.has)
  unfold okAf at h2
  rw [is1_of (good_sea h), hk] at h2
  simp only [beq_true, Bool.and_true, Bool.not_true, Bool.false_or, Bool.and_eq_true, Nat.ble_eq] at h2
  exact ⟨of_beq h2.1, h2.2⟩

end Go.Proofs.YtafnjbmeponobaaGreatDoor

namespace Go.Proofs.YtafnjbmeponobaaGreatDoor
open Go.RowKit

set_option maxRecDepth 20000 in
set_option maxHeartbeats 1600000 in
theorem slIndexByte_any (s : List UInt8) (c : UInt8) (w : World) :
    Calls Tryz.prog 139 #[.string (str s), .int .u8 (c.toNat : Int)] w fun e w' => e = .returned (.int .i64 (Lib.indexByte s c)) ∧ w' = w := by
  go_enter Tryz.func139, Tryz.ntmps139
  go_wp2
  rw [run_callFunc_extern Tryz.func141 (by kernel_rfl) (by kernel_rfl) (by kernel_rfl) (e := Extern.BytealgIndexByte.indexByte) (by kernel_rfl), Lib.run_indexByteString]
  simp only [Result.andThen]
  rw [Oper.upon_value]
  go_wp2
  go_ret
  refine ⟨?_, rfl⟩
  show Ending.returned _ = _
  congr 2

set_option maxRecDepth 20000 in
set_option maxHeartbeats 1600000 in
theorem indexByte_any (s : List UInt8) (c : UInt8) (w : World) :
    Calls Tryz.prog 134 #[.string (str s), .int .u8 (c.toNat : Int)] w fun e w' => e = .returned (.int .i64 (Lib.indexByte s c)) ∧ w' = w := by
  obtain ⟨K, hK⟩ : ∃ K, Lib.indexByte s c = K := ⟨_, rfl⟩
  have HC := slIndexByte_any s c w
  rw [hK] at HC ⊢
  have HC := Lib.hid HC
  clear hK
  go_enter Tryz.func134, Tryz.ntmps134
  go_wp2_with fail
  refine HC.out.mono ?_
  rintro e w1 ⟨rfl, rfl⟩
  go_wp2
  go_ret
  exact ⟨rfl, rfl⟩

set_option maxRecDepth 20000 in
set_option maxHeartbeats 1600000 in
theorem cutover_any (n : Nat) (w : World) (hn : n ≤ 1000000) :
    Calls Tryz.prog 136 #[.int .i64 (n : Int)] w fun e w' => e = .returned (.int .i64 (((n + 16) / 8 : Nat) : Int)) ∧ w' = w := by
  obtain ⟨q, hq⟩ : ∃ q, (n + 16) / 8 = q := ⟨_, rfl⟩
  have e1 : ((n : Int) + 16) / 8 = (q : Int) := by omega
  have e2 : ((n : Int) + 16).tdiv 8 = (q : Int) := by rw [Int.tdiv_eq_ediv_of_nonneg (by omega)]; exact e1
  rw [hq]
  clear hq
  go_enter Tryz.func136, Tryz.ntmps136
  go_wp2
  go_ret
  exact ⟨by first | rfl | (congr 2), rfl⟩

set_option maxRecDepth 20000 in
set_option maxHeartbeats 1600000 in
theorem validRune_any (c : Nat) (w : World) (hc : c < 55296) :
    Calls Tryz.prog 135 #[.int .i32 (c : Int)] w fun e w' => e = .returned (.bool true) ∧ w' = w := by
  have t1 : decide ((0 : Int) ≤ (c : Int)) = true := by simp
  have t2 : decide ((c : Int) < 55296) = true := by simp; omega
  go_enter Tryz.func135, Tryz.ntmps135
  go_wp2
  go_ret
  exact ⟨rfl, rfl⟩

set_option maxRecDepth 100000 in
set_option maxHeartbeats 1600000 in
theorem indexRune_ascii (s : List UInt8) (c : Nat) (w : World) (hc : c < 128) :
    Calls Tryz.prog 130 #[.string (str s), .int .i32 (c : Int)] w fun e w' => e = .returned (.int .i64 (Lib.indexByte s (UInt8.ofNat c))) ∧ w' = w := by
  have t1 : decide ((0 : Int) ≤ (c : Int)) = true := by simp
  have t2 : decide ((c : Int) < 128) = true := by simp; omega
  have HC := indexByte_any s (UInt8.ofNat c) w
  rw [byte_of (by omega : c < 256)] at HC
  obtain ⟨K, hK⟩ : ∃ K, Lib.indexByte s (UInt8.ofNat c) = K := ⟨_, rfl⟩
  rw [hK] at HC ⊢
  have HC := Lib.hid HC
  clear hK
  go_enter Tryz.func130, Tryz.ntmps130
  go_wp2_with fail
  refine HC.out.mono ?_
  rintro e w1 ⟨rfl, rfl⟩
  go_wp2
  go_ret
  exact ⟨rfl, rfl⟩

end Go.Proofs.YtafnjbmeponobaaGreatDoor
