/-
  The reference's begins, part, encoded of translit.
  The reference's Valid of translit.
  Stable sorting and merging in plain mathematics.
  Where sorted parts are cut for merging; rows that are sorted in blocks.
-/
import Derived.Test.YtomkipddbmnipaaDoorPkAG
import Derived.Test.YtomkipddbmnipaaDoorPkAD
import Derived.Deep.QuietTactic
import Derived.BigQuiet
import Derived.ProofKit
namespace Go.Proofs.YtomkipddbmnipaaDoor
open Go.RowKit

set_option maxRecDepth 20000 in
set_option maxHeartbeats 1600000 in
theorem refBegins_any (s p : List UInt8) (w : World) (hs : s.length ≤ 1000000000) (hp : p.length ≤ 1000000000) :
    Calls Tryd.prog 33 #[.string (str s), .string (str p)] w fun e w' => e = .returned (.bool (begB s p)) ∧ w' = w := by
  have h1 : (str s).size = s.length := rfl
  have h2 : (str p).size = p.length := rfl
  by_cases hl : p.length ≤ s.length
  · have t1 : decide ((p.length : Int) ≤ (s.length : Int)) = true := by simpa using hl
    have t1' : decide (p.length ≤ s.length) = true := by simpa using hl
    have hsl := fun W => str_pre (P := Tryd.prog) 9 Tryd.underlying9 s p.length hl W
    have hq := strs_beq (s.take p.length) p
    have HE : Hid (begB s p = decide (s.take p.length = p)) := Lib.hid rfl
    obtain ⟨z, hz⟩ : ∃ z, decide (s.take p.length = p) = z := ⟨_, rfl⟩
    obtain ⟨x, hx⟩ : ∃ x, s.take p.length = x := ⟨_, rfl⟩
    rw [hz] at hq HE
    rw [hx] at hsl hq
    obtain ⟨n, hn⟩ : ∃ n, p.length = n := ⟨_, rfl⟩
    obtain ⟨m, hm⟩ : ∃ m, s.length = m := ⟨_, rfl⟩
    rw [hn] at hsl t1 t1' h2 hp
    rw [hm] at t1 t1' h1 hs
    clear hz hx hl hn hm
    go_enter Tryd.func33, Tryd.ntmps33
    go_wp2
    go_ret
    exact ⟨ret_bool HE.out.symm, rfl⟩
  · have t1 : decide ((p.length : Int) ≤ (s.length : Int)) = false := by simp; omega
    have t1' : decide (p.length ≤ s.length) = false := by simpa using hl
    have HE : Hid (begB s p = false) := Lib.hid (by
      cases hb : begB s p with
      | false => rfl
      | true => exact absurd (beg_len hb) hl)
    clear hl
    go_enter Tryd.func33, Tryd.ntmps33
    go_wp2
    go_ret
    exact ⟨ret_bool HE.out.symm, rfl⟩

set_option maxRecDepth 20000 in
set_option maxHeartbeats 1600000 in
theorem refPart_any (s : List UInt8) (w : World) (hs : s.length ≤ 1000000) :
    Calls Tryd.prog 31 #[.string (str s)] w fun e w' => e = .returned (.bool (sideB s)) ∧ Below w.heap.size w w' := by
  have HD := Lib.hid (refDecode_any s w (by omega))
  obtain ⟨R, hR⟩ : ∃ R, sideB s = R := ⟨_, rfl⟩
  rw [hR]
  unfold sideB at hR
  have HR := Lib.hid hR
  clear hR
  go_enter Tryd.func31, Tryd.ntmps31
  go_wp2_with fail
  refine HD.out.mono ?_
  rintro e w1 ⟨hd, k1⟩
  obtain ⟨A, n, c, b, rfl, hcase⟩ := hd.form
  rcases hcase with ⟨rfl, l, h1, h2, _⟩ | ⟨rfl, h1, _⟩
  · have hn : n ≤ 1000000 := by have := dec_len h1; omega
    have HE : Hid (R = (decide (1 ≤ n) && decide (n ≤ 6))) := Lib.hid (by rw [← HR.out, h1, h2])
    clear hd h1 h2
    by_cases g1 : 1 ≤ n
    · have t1 : decide ((1 : Int) ≤ (n : Int)) = true := by simp; omega
      have t1' : decide (1 ≤ n) = true := by simpa using g1
      by_cases g2 : n ≤ 6
      · have t2 : decide ((n : Int) ≤ 6) = true := by simp; omega
        have HE2 : Hid (R = true) := Lib.hid (by rw [HE.out, decide_eq_true g1, decide_eq_true g2]; rfl)
        clear g1 g2
        go_wp2
        go_ret
        rw [HE2.out]
        exact ⟨rfl, k1⟩
      · have t2 : decide ((n : Int) ≤ 6) = false := by simp; omega
        have HE2 : Hid (R = false) := Lib.hid (by rw [HE.out, decide_eq_true g1, decide_eq_false g2]; rfl)
        clear g1 g2
        go_wp2
        go_ret
        rw [HE2.out]
        exact ⟨rfl, k1⟩
    · have t1 : decide ((1 : Int) ≤ (n : Int)) = false := by simp; omega
      have t1' : decide (1 ≤ n) = false := by simpa using g1
      have HE2 : Hid (R = false) := Lib.hid (by rw [HE.out, decide_eq_false g1]; rfl)
      clear g1
      go_wp2
      go_ret
      rw [HE2.out]
      exact ⟨rfl, k1⟩
  · have HE2 : Hid (R = false) := Lib.hid (by rw [← HR.out, h1])
    clear hd h1
    go_wp2
    go_ret
    rw [HE2.out]
    exact ⟨rfl, k1⟩

set_option maxRecDepth 20000 in
set_option maxHeartbeats 1600000 in
theorem refEncoded7_any (s : List UInt8) (w : World) (hs : s.length ≤ 1000000) :
    Calls Tryd.prog 37 #[.string (str s)] w fun e w' => e = .returned (.bool (decR s).isSome) ∧ Below w.heap.size w w' := by
  have HD := Lib.hid (refDecode_any s w (by omega))
  obtain ⟨R, hR⟩ : ∃ R, (decR s).isSome = R := ⟨_, rfl⟩
  rw [hR]
  have HR := Lib.hid hR
  clear hR
  go_enter Tryd.func37, Tryd.ntmps37
  go_wp2_with fail
  refine HD.out.mono ?_
  rintro e w1 ⟨hd, k1⟩
  obtain ⟨A, n, c, b, rfl, hcase⟩ := hd.form
  have HE : Hid (R = b) := Lib.hid (by
    rw [← HR.out]
    rcases hcase with ⟨rfl, l, h1, _⟩ | ⟨rfl, h1, _⟩
    · rw [h1]; rfl
    · rw [h1]; rfl)
  clear hd hcase
  go_wp2
  go_ret
  rw [HE.out]
  exact ⟨rfl, k1⟩

end Go.Proofs.YtomkipddbmnipaaDoor

namespace Go.Proofs.YtomkipddbmnipaaDoor
open Go.RowKit

/-- A rule as the model holds it. -/
def rv (x : RuleL) : List Value := [.string (str x.1), .string (str x.2)]
theorem rv_len (x : RuleL) : (rv x).length = 2 := rfl
theorem rv_one (x : RuleL) : ∀ u ∈ rv x, u.oneCell' = true := by
  intro u hu
  simp only [rv, List.mem_cons, List.not_mem_nil, or_false] at hu
  rcases hu with rfl | rfl <;> rfl
/-- A table of rules with sides that are not too long. -/
structure Table (w : World) (A : Option Addr) (n c : Nat) (t : List RuleL) : Prop where
  arr : SArr 2 rv w w.heap.size (.slice A n c) t
  few : n ≤ 1000
  short : ∀ x ∈ t, x.1.length ≤ 1000 ∧ x.2.length ≤ 1000
theorem Table.up {W w : World} {A : Option Addr} {n c : Nat} {t : List RuleL} (h : Table W A n c t) (hb : Below W.heap.size W w) : Table w A n c t := ⟨h.arr.up hb, h.few, h.short⟩
theorem Table.cells {w : World} {A : Option Addr} {n c : Nat} {t : List RuleL} (h : Table w A n c t) (h0 : 0 < n) :
    ∃ b off, A = some ⟨b, off, none⟩ ∧ b < w.heap.size ∧ ∀ (i : Nat) (x : RuleL), t[i]? = some x → w.cell? ⟨b, off + i * 2, none⟩ = some (.string (str x.1)) ∧ w.cell? ⟨b, off + i * 2 + 1, none⟩ = some (.string (str x.2)) := by
  obtain ⟨b, off, e, hb, hc⟩ := h.arr.some_ rv_len (by decide) h0
  exact ⟨b, off, e, hb, fun i x hx => ⟨hc i x hx 0 _ rfl, hc i x hx 1 _ rfl⟩⟩
theorem dist_snoc : ∀ (l : List RuleL) (x : RuleL), distB (l ++ [x]) = (distB l && l.all fun y => decide (y.1 ≠ x.1))
  | [], x => rfl
  | z :: l, x => by
    rw [List.cons_append, distB, dist_snoc l x, Bool.eq_iff_iff]
    simp only [distB, Bool.and_eq_true, List.all_eq_true, List.mem_append, List.mem_cons, List.not_mem_nil, or_false, decide_eq_true_eq]
    constructor
    · rintro ⟨h1, h2, h3⟩
      refine ⟨⟨fun y hy => h1 y (.inl hy), h2⟩, fun y hy => ?_⟩
      rcases hy with rfl | hy
      · exact fun e => h1 x (.inr rfl) e.symm
      · exact h3 y hy
    · rintro ⟨⟨h1, h2⟩, h3⟩
      refine ⟨fun y hy => ?_, h2, fun y hy => h3 y (.inr hy)⟩
      rcases hy with hy | rfl
      · exact h1 y hy
      · exact fun e => h3 z (.inl rfl) e.symm
def sidesB (t : List RuleL) : Bool := t.all fun x => sideB x.1 && sideB x.2
def preB (t : List RuleL) : Bool := sidesB t && distB t
theorem pre_snoc (l : List RuleL) (x : RuleL) : preB (l ++ [x]) = (preB l && (sideB x.1 && sideB x.2 && l.all fun y => decide (y.1 ≠ x.1))) := by
  unfold preB sidesB
  rw [dist_snoc, List.all_append]
  simp only [List.all_cons, List.all_nil, Bool.and_true]
  cases (l.all fun x => sideB x.1 && sideB x.2) <;> cases sideB x.1 <;> cases sideB x.2 <;> cases distB l <;> cases (l.all fun y => decide (y.1 ≠ x.1)) <;> rfl
theorem dist_take : ∀ {t : List RuleL} (k : Nat), distB t = true → distB (t.take k) = true
  | [], _, _ => by simp [distB]
  | x :: t, 0, _ => by simp [distB]
  | x :: t, k + 1, h => by
    rw [distB, Bool.and_eq_true, List.all_eq_true] at h
    rw [List.take_succ_cons, distB, Bool.and_eq_true, List.all_eq_true]
    exact ⟨fun y hy => h.1 y (List.mem_of_mem_take hy), dist_take k h.2⟩
/-- A beginning that is not valid. -/
theorem valid_no {t : List RuleL} {k : Nat} (h : preB (t.take k) = false) : validL t = false := by
  cases hv : validL t with
  | false => rfl
  | true =>
    have hV := valid_of hv
    have : preB (t.take k) = true := by
      unfold preB sidesB
      rw [Bool.and_eq_true, List.all_eq_true]
      exact ⟨fun x hx => by rw [Bool.and_eq_true]; exact hV.sides x (List.mem_of_mem_take hx), dist_take k hV.dist⟩
    rw [h] at this
    cases this
theorem valid_end {t : List RuleL} (h : preB t = true) : validL t = (decide (1 ≤ t.length) && decide (t.length ≤ 80)) := by
  have e : validL t = (preB t && decide (1 ≤ t.length) && decide (t.length ≤ 80)) := rfl
  rw [e, h]
  rfl

set_option maxRecDepth 20000 in
set_option maxHeartbeats 3200000 in
theorem refValid7_any (A : Option Addr) (n c : Nat) (t : List RuleL) (w : World) (h : Table w A n c t) :
    Calls Tryd.prog 14 #[.slice A n c] w fun e w' => e = .returned (.bool (validL t)) ∧ Below w.heap.size w w' := by
  have HL := Lib.hid h.arr.len
  have hn := h.few
  have HSh := Lib.hid h.short
  obtain ⟨R, hR⟩ : ∃ R, validL t = R := ⟨_, rfl⟩
  rw [hR]
  have HR := Lib.hid hR
  clear hR
  go_enter Tryd.func14, Tryd.ntmps14
  go_wp2
  go_loopw [3] (fun i wr => ∃ k : Nat, k ≤ n ∧ i = .int .i64 (k : Int) ∧ Hid (preB (t.take k) = true) ∧ Below w.heap.size w wr) (fun i _ => n - (intOf i).toNat)
  case atStart => exact ⟨0, by omega, rfl, Lib.hid rfl, Below.refl _ _⟩
  case round =>
    obtain ⟨k, hk, rfl, HP, hb⟩ := hrel
    by_cases hlt : k < n
    · have t1 : decide ((k : Int) < (n : Int)) = true := by simp; omega
      have kz : (k : Int) < (n : Int) := by omega
      obtain ⟨b0, o0, rfl, hB0, hc0⟩ := h.cells (by omega)
      obtain ⟨x, hx⟩ : ∃ a, t[k]? = some a := ⟨_, List.getElem?_eq_getElem (by have := HL.out; omega)⟩
      have hxs := HSh.out x (List.mem_of_getElem? hx)
      have HC := Lib.hid fun v (hv : Below w.heap.size w v) => (And.intro ((hv.cell (p := ⟨b0, o0 + k * 2, none⟩) hB0).trans (hc0 k x hx).1) ((hv.cell (p := ⟨b0, o0 + k * 2 + 1, none⟩) hB0).trans (hc0 k x hx).2))
      have d0 := (HC.out wr hb).1
      have HN : Hid (preB (t.take (k + 1)) = (sideB x.1 && sideB x.2 && (t.take k).all fun y => decide (y.1 ≠ x.1))) := Lib.hid (by rw [take_next hx, pre_snoc, HP.out]; rfl)
      have Hc0 := Lib.hid hc0
      have HX := Lib.hid hx
      have HP1 := Lib.hid fun W => refPart_any x.1 W (by omega)
      have HP2 := Lib.hid fun W => refPart_any x.2 W (by omega)
      obtain ⟨s1, hs1⟩ : ∃ z, sideB x.1 = z := ⟨_, rfl⟩
      obtain ⟨s2, hs2⟩ : ∃ z, sideB x.2 = z := ⟨_, rfl⟩
      rw [hs1, hs2] at HN
      rw [hs1] at HP1
      rw [hs2] at HP2
      clear hc0 hx hs1 hs2
      cases s1 with
      | false =>
        have HE : Hid (R = false) := Lib.hid (by rw [← HR.out]; exact valid_no (k := k + 1) (by rw [HN.out]; rfl))
        go_wp2_with fail
        refine (HP1.out _).mono ?_
        rintro e w1 ⟨rfl, k1⟩
        go_wp2
        go_ret
        rw [HE.out]
        exact ⟨rfl, below_next hb k1⟩
      | true =>
        cases s2 with
        | false =>
          have HE : Hid (R = false) := Lib.hid (by rw [← HR.out]; exact valid_no (k := k + 1) (by rw [HN.out]; rfl))
          go_wp2_with fail
          refine (HP1.out _).mono ?_
          rintro e w1 ⟨rfl, k1⟩
          have d1 := (HC.out w1 (below_next hb k1)).2
          go_wp2_with fail
          refine (HP2.out _).mono ?_
          rintro e w2 ⟨rfl, k2⟩
          go_wp2
          go_ret
          rw [HE.out]
          exact ⟨rfl, below_next hb (below_next k1 k2)⟩
        | true =>
          go_wp2_with fail
          refine (HP1.out _).mono ?_
          rintro e w1 ⟨rfl, k1⟩
          have d1 := (HC.out w1 (below_next hb k1)).2
          go_wp2_with fail
          refine (HP2.out _).mono ?_
          rintro e w2 ⟨rfl, k2⟩
          have hb2 := below_next hb (below_next k1 k2)
          go_wp2
          go_loopw [4] (fun i wi => ∃ j : Nat, j ≤ k ∧ i = .int .i64 (j : Int) ∧ Hid (((t.take j).all fun y => decide (y.1 ≠ x.1)) = true) ∧ Below w.heap.size w wi) (fun i _ => k - (intOf i).toNat)
          case atStart => exact ⟨0, by omega, rfl, Lib.hid rfl, hb2⟩
          case round =>
            obtain ⟨j, hj, rfl, HJ, hbi⟩ := hrel
            by_cases hjl : j < k
            · have t2 : decide ((j : Int) < (k : Int)) = true := by simp; omega
              have jz : (j : Int) < (n : Int) := by omega
              obtain ⟨y, hy⟩ : ∃ a, t[j]? = some a := ⟨_, List.getElem?_eq_getElem (by have := HL.out; omega)⟩
              have e0 := (hbi.cell (p := ⟨b0, o0 + j * 2, none⟩) hB0).trans (Hc0.out j y hy).1
              have e1 := (HC.out _ hbi).1
              have hq := strs_beq y.1 x.1
              by_cases hyx : y.1 = x.1
              · rw [decide_eq_true hyx] at hq
                have HE : Hid (R = false) := Lib.hid (by
                  rw [← HR.out]
                  refine valid_no (k := k + 1) ?_
                  rw [HN.out, Bool.true_and, Bool.true_and]
                  refine Bool.eq_false_iff.2 fun hall => ?_
                  have hm : y ∈ t.take k := List.mem_of_getElem? (i := j) (by rw [List.getElem?_take, if_pos hjl]; exact hy)
                  exact absurd hyx (of_decide_eq_true (List.all_eq_true.1 hall y hm)))
                clear hyx hy
                go_wp2
                go_quiet (fail)
                go_wp2
                go_ret
                rw [HE.out]
                exact ⟨rfl, below_drewN hbi _⟩
              · rw [decide_eq_false hyx] at hq
                have HJ2 : Hid (((t.take (j + 1)).all fun y => decide (y.1 ≠ x.1)) = true) := Lib.hid (by
                  rw [take_next hy, List.all_append, HJ.out]
                  simpa using hyx)
                clear hyx hy
                go_wp2
                go_quiet (fail)
                go_wp2
                go_roundw
                case rel => exact ⟨j + 1, by omega, by go_num, HJ2, below_drewN hbi _⟩
                case measure => simp [intOf]; omega
            · obtain rfl : j = k := by omega
              have HN2 : Hid (preB (t.take (j + 1)) = true) := Lib.hid (by rw [HN.out, HJ.out]; rfl)
              go_wp2
              go_roundw
              case rel => exact ⟨j + 1, by omega, by go_num, HN2, hbi⟩
              case measure => simp [intOf]; omega
    · obtain rfl : k = n := by omega
      have t1 : decide ((k : Int) < (k : Int)) = false := by simp
      have HE : Hid (R = (decide (1 ≤ k) && decide (k ≤ 80))) := Lib.hid (by
        have hp := HP.out
        rw [List.take_of_length_le (by rw [HL.out]; omega)] at hp
        rw [← HR.out, valid_end hp, HL.out])
      by_cases g1 : 1 ≤ k
      · have t2 : decide ((1 : Int) ≤ (k : Int)) = true := by simp; omega
        by_cases g2 : k ≤ 80
        · have t3 : decide ((k : Int) ≤ 80) = true := by simp; omega
          have HE2 : Hid (R = true) := Lib.hid (by rw [HE.out, decide_eq_true g1, decide_eq_true g2]; rfl)
          clear g1 g2
          go_wp2
          go_ret
          rw [HE2.out]
          exact ⟨rfl, hb⟩
        · have t3 : decide ((k : Int) ≤ 80) = false := by simp; omega
          have HE2 : Hid (R = false) := Lib.hid (by rw [HE.out, decide_eq_true g1, decide_eq_false g2]; rfl)
          clear g1 g2
          go_wp2
          go_ret
          rw [HE2.out]
          exact ⟨rfl, hb⟩
      · have t2 : decide ((1 : Int) ≤ (k : Int)) = false := by simp; omega
        have HE2 : Hid (R = false) := Lib.hid (by rw [HE.out, decide_eq_false g1]; rfl)
        clear g1
        go_wp2
        go_ret
        rw [HE2.out]
        exact ⟨rfl, hb⟩

end Go.Proofs.YtomkipddbmnipaaDoor

namespace Go.Proofs.YtomkipddbmnipaaDoor

section
variable (cl : Nat → Nat)
def Asc (l : List Nat) : Prop := l.Pairwise fun x y => cl x ≤ cl y
def flt (k : Nat) (l : List Nat) : List Nat := l.filter fun x => Nat.beq (cl x) k
/-- The same elements, those of one class in the same order. -/
def Stab (l m : List Nat) : Prop := ∀ k, flt cl k m = flt cl k l
/-- m is l, sorted by classes, those of one class in the same order. -/
def Srtd (l m : List Nat) : Prop := Asc cl m ∧ Stab cl l m
end

section
variable {cl : Nat → Nat}
theorem flt_app (k : Nat) (l m : List Nat) : flt cl k (l ++ m) = flt cl k l ++ flt cl k m := List.filter_append ..
theorem mem_flt {k y : Nat} {l : List Nat} : y ∈ flt cl k l ↔ y ∈ l ∧ cl y = k := by
  unfold flt
  rw [List.mem_filter, Nat.beq_eq]
theorem Stab.refl (l : List Nat) : Stab cl l l := fun _ => rfl
theorem Stab.symm {l m : List Nat} (h : Stab cl l m) : Stab cl m l := fun k => (h k).symm
theorem Stab.trans {l m n : List Nat} (h : Stab cl l m) (h2 : Stab cl m n) : Stab cl l n := fun k => (h2 k).trans (h k)
theorem Stab.app {l m l' m' : List Nat} (h : Stab cl l m) (h2 : Stab cl l' m') : Stab cl (l ++ l') (m ++ m') := fun k => by rw [flt_app, flt_app, h k, h2 k]
theorem Stab.mem {l m : List Nat} (h : Stab cl l m) {y : Nat} : y ∈ m ↔ y ∈ l := by
  constructor
  · intro hy
    have : y ∈ flt cl (cl y) m := mem_flt.2 ⟨hy, rfl⟩
    rw [h] at this
    exact (mem_flt.1 this).1
  · intro hy
    have : y ∈ flt cl (cl y) l := mem_flt.2 ⟨hy, rfl⟩
    rw [← h] at this
    exact (mem_flt.1 this).1
theorem Stab.perm {l m : List Nat} (h : Stab cl l m) : l.Perm m := by
  rw [List.perm_iff_count]
  intro y
  have e : ∀ s : List Nat, s.count y = (flt cl (cl y) s).count y := fun s => by
    unfold flt
    rw [List.count_filter]
    rw [Nat.beq_eq]
  rw [e l, e m, h]
theorem Stab.length {l m : List Nat} (h : Stab cl l m) : m.length = l.length := h.perm.length_eq.symm
theorem flt_nil {k : Nat} {l : List Nat} (h : ∀ x ∈ l, cl x ≠ k) : flt cl k l = [] := by
  unfold flt
  rw [List.filter_eq_nil_iff]
  intro x hx
  rw [Nat.beq_eq]
  exact h x hx
/-- Two parts without a class in common. -/
theorem Stab.exch {U V : List Nat} (h : ∀ u ∈ U, ∀ v ∈ V, cl v < cl u) : Stab cl (U ++ V) (V ++ U) := by
  intro k
  rw [flt_app, flt_app]
  by_cases hu : ∃ u ∈ U, cl u = k
  · obtain ⟨u, hu, rfl⟩ := hu
    rw [flt_nil (l := V) fun v hv => by have := h u hu v hv; omega]
    simp
  · rw [flt_nil (l := U) fun u hu2 e => hu ⟨u, hu2, e⟩]
    simp
theorem srt_uniq : ∀ (l m : List Nat), Asc cl l → Asc cl m → Stab cl l m → l = m
  | [], m, _, _, h => by
    cases m with
    | nil => rfl
    | cons y m => exact absurd (h.mem.1 (List.mem_cons_self ..)) (by simp)
  | x :: l, [], _, _, h => absurd (h.mem.2 (List.mem_cons_self ..)) (by simp)
  | x :: l, y :: m, ha, hb, h => by
    have hab : cl x = cl y := by
      have h1 : cl x ≤ cl y := by
        have := h.mem.1 (List.mem_cons_self (a := y))
        rcases List.mem_cons.1 this with e | e
        · rw [e]; exact Nat.le_refl _
        · exact List.rel_of_pairwise_cons ha e
      have h2 : cl y ≤ cl x := by
        have := h.mem.2 (List.mem_cons_self (a := x))
        rcases List.mem_cons.1 this with e | e
        · rw [e]; exact Nat.le_refl _
        · exact List.rel_of_pairwise_cons hb e
      omega
    have hk := h (cl x)
    have e1 : flt cl (cl x) (x :: l) = x :: flt cl (cl x) l := by
      unfold flt
      rw [List.filter_cons_of_pos (by rw [Nat.beq_eq])]
    have e2 : flt cl (cl x) (y :: m) = y :: flt cl (cl x) m := by
      unfold flt
      rw [List.filter_cons_of_pos (by rw [Nat.beq_eq]; omega)]
    rw [e1, e2] at hk
    injection hk with hxy ht
    subst hxy
    congr 1
    refine srt_uniq l m (List.Pairwise.of_cons ha) (List.Pairwise.of_cons hb) fun k => ?_
    by_cases hkc : cl y = k
    · subst hkc; exact ht
    · have := h k
      have e3 : ∀ s, flt cl k (y :: s) = flt cl k s := fun s => by
        unfold flt
        rw [List.filter_cons_of_neg (by rw [Nat.beq_eq]; exact hkc)]
      rwa [e3, e3] at this
theorem Srtd.uniq {l m n : List Nat} (h : Srtd cl l m) (h2 : Srtd cl l n) : m = n := srt_uniq m n h.1 h2.1 (h.2.symm.trans h2.2)
theorem Srtd.of_stab {l l' m : List Nat} (h : Stab cl l l') (h2 : Srtd cl l' m) : Srtd cl l m := ⟨h2.1, h.trans h2.2⟩
theorem Srtd.self {l : List Nat} (h : Asc cl l) : Srtd cl l l := ⟨h, Stab.refl l⟩
theorem Srtd.length {l m : List Nat} (h : Srtd cl l m) : m.length = l.length := h.2.length
theorem asc_app {l m : List Nat} : Asc cl (l ++ m) ↔ Asc cl l ∧ Asc cl m ∧ ∀ a ∈ l, ∀ b ∈ m, cl a ≤ cl b := List.pairwise_append
theorem asc_one (x : Nat) : Asc cl [x] := List.pairwise_singleton ..
theorem asc_nil : Asc cl [] := List.Pairwise.nil
/-- Two parts, all of the first one at most as great as all of the second one. -/
theorem Srtd.app {l m l' m' : List Nat} (h : Srtd cl l m) (h' : Srtd cl l' m') (hx : ∀ a ∈ l, ∀ b ∈ l', cl a ≤ cl b) : Srtd cl (l ++ l') (m ++ m') :=
  ⟨asc_app.2 ⟨h.1, h'.1, fun a ha b hb => hx a (h.2.mem.1 ha) b (h'.2.mem.1 hb)⟩, h.2.app h'.2⟩
/-- One element ahead of a sorted list. -/
theorem srt_left {x : Nat} {V1 V2 : List Nat} (hs : Asc cl (V1 ++ V2)) (h1 : ∀ v ∈ V1, cl v < cl x) (h2 : ∀ v ∈ V2, cl x ≤ cl v) : Srtd cl (x :: (V1 ++ V2)) (V1 ++ x :: V2) := by
  refine ⟨?_, ?_⟩
  · obtain ⟨a1, a2, a3⟩ := asc_app.1 hs
    refine asc_app.2 ⟨a1, List.pairwise_cons.2 ⟨h2, a2⟩, fun a ha b hb => ?_⟩
    rcases List.mem_cons.1 hb with rfl | hb
    · exact Nat.le_of_lt (h1 a ha)
    · exact a3 a ha b hb
  · have := (Stab.exch (cl := cl) (U := [x]) (V := V1) fun u hu v hv => by rw [List.mem_singleton] at hu; subst hu; exact h1 v hv).app (Stab.refl V2)
    simpa using this
/-- One element behind a sorted list. -/
theorem srt_right {y : Nat} {U1 U2 : List Nat} (hs : Asc cl (U1 ++ U2)) (h1 : ∀ u ∈ U1, cl u ≤ cl y) (h2 : ∀ u ∈ U2, cl y < cl u) : Srtd cl ((U1 ++ U2) ++ [y]) (U1 ++ y :: U2) := by
  refine ⟨?_, ?_⟩
  · obtain ⟨a1, a2, a3⟩ := asc_app.1 hs
    refine asc_app.2 ⟨a1, List.pairwise_cons.2 ⟨fun u hu => Nat.le_of_lt (h2 u hu), a2⟩, fun a ha b hb => ?_⟩
    rcases List.mem_cons.1 hb with rfl | hb
    · exact h1 a ha
    · exact a3 a ha b hb
  · have := (Stab.refl (cl := cl) U1).app (Stab.exch (cl := cl) (U := U2) (V := [y]) fun u hu v hv => by rw [List.mem_singleton] at hv; subst hv; exact h2 u hu)
    simpa using this
/-- Two sorted lists, cut so that the first parts are at most as great as the second ones: the parts are exchanged and merged. -/
theorem srt_merge {A1 U2 V1 V2 M1 M2 : List Nat} (hU : Asc cl (A1 ++ U2)) (hV : Asc cl (V1 ++ V2)) (h1 : ∀ u ∈ U2, ∀ v ∈ V1, cl v < cl u) (h2 : ∀ a ∈ A1, ∀ v ∈ V2, cl a ≤ cl v)
    (hm1 : Srtd cl (A1 ++ V1) M1) (hm2 : Srtd cl (U2 ++ V2) M2) : Srtd cl ((A1 ++ U2) ++ (V1 ++ V2)) (M1 ++ M2) := by
  obtain ⟨a1, a2, a3⟩ := asc_app.1 hU
  obtain ⟨b1, b2, b3⟩ := asc_app.1 hV
  have h : Srtd cl ((A1 ++ V1) ++ (U2 ++ V2)) (M1 ++ M2) := hm1.app hm2 fun a ha b hb => by
    rcases List.mem_append.1 ha with ha | ha
    · rcases List.mem_append.1 hb with hb | hb
      · exact a3 a ha b hb
      · exact h2 a ha b hb
    · rcases List.mem_append.1 hb with hb | hb
      · exact Nat.le_of_lt (h1 b hb a ha)
      · exact b3 a ha b hb
  refine Srtd.of_stab ?_ h
  have := ((Stab.refl (cl := cl) A1).app (Stab.exch h1)).app (Stab.refl V2)
  simpa using this
theorem asc_get {l : List Nat} (h : Asc cl l) {i j x y : Nat} (hi : l[i]? = some x) (hj : l[j]? = some y) (hij : i ≤ j) : cl x ≤ cl y := by
  rcases Nat.lt_or_ge i j with h2 | h2
  · obtain ⟨hil, rfl⟩ := List.getElem?_eq_some_iff.1 hi
    obtain ⟨hjl, rfl⟩ := List.getElem?_eq_some_iff.1 hj
    exact List.pairwise_iff_getElem.1 h i j hil hjl h2
  · obtain rfl : i = j := by omega
    rw [hi] at hj
    cases hj
    exact Nat.le_refl _
end

end Go.Proofs.YtomkipddbmnipaaDoor

namespace Go.Proofs.YtomkipddbmnipaaDoor

section
variable {cl : Nat → Nat}
theorem mem_drop_get {l : List Nat} {s u : Nat} (h : u ∈ l.drop s) : ∃ i, s ≤ i ∧ l[i]? = some u := by
  obtain ⟨i, hi⟩ := List.getElem?_of_mem h
  rw [List.getElem?_drop] at hi
  exact ⟨s + i, by omega, hi⟩
theorem mem_take_get {l : List Nat} {s u : Nat} (h : u ∈ l.take s) : ∃ i, i < s ∧ l[i]? = some u := by
  obtain ⟨i, hi⟩ := List.getElem?_of_mem h
  rw [List.getElem?_take] at hi
  split at hi
  · exact ⟨i, by assumption, hi⟩
  · cases hi
theorem get_lt {l : List Nat} {i x : Nat} (h : l[i]? = some x) : i < l.length := (List.getElem?_eq_some_iff.1 h).1
theorem get_some {l : List Nat} {i : Nat} (h : i < l.length) : ∃ x, l[i]? = some x := ⟨_, List.getElem?_eq_getElem h⟩
/-- The cut that the search finds. -/
theorem sym_cut {U V : List Nat} {h s : Nat} (hU : Asc cl U) (hV : Asc cl V) (hh : h = (U.length + V.length) / 2) (hlo : h - V.length ≤ s) (hhi1 : s ≤ h) (hhi2 : s ≤ U.length)
    (h1 : ∀ c x y, h - V.length ≤ c → c < s → U[c]? = some x → V[h - 1 - c]? = some y → cl x ≤ cl y)
    (h2 : ∀ c x y, s ≤ c → c < h → c < U.length → U[c]? = some x → V[h - 1 - c]? = some y → cl y < cl x) :
    (∀ u ∈ U.drop s, ∀ v ∈ V.take (h - s), cl v < cl u) ∧ (∀ a ∈ U.take s, ∀ v ∈ V.drop (h - s), cl a ≤ cl v) := by
  constructor
  · intro u hu v hv
    obtain ⟨i, hi, hiu⟩ := mem_drop_get hu
    obtain ⟨j, hj, hjv⟩ := mem_take_get hv
    have l1 := get_lt hiu
    have l2 := get_lt hjv
    obtain ⟨x, hx⟩ := get_some (l := U) (i := s) (by omega)
    obtain ⟨y, hy⟩ := get_some (l := V) (i := h - 1 - s) (by omega)
    have e1 := h2 s x y (Nat.le_refl _) (by omega) (by omega) hx hy
    have e2 := asc_get hV hjv hy (by omega)
    have e3 := asc_get hU hx hiu hi
    omega
  · intro u hu v hv
    obtain ⟨i, hi, hiu⟩ := mem_take_get hu
    obtain ⟨j, hj, hjv⟩ := mem_drop_get hv
    have l1 := get_lt hiu
    have l2 := get_lt hjv
    obtain ⟨x, hx⟩ := get_some (l := U) (i := s - 1) (by omega)
    obtain ⟨y, hy⟩ := get_some (l := V) (i := h - 1 - (s - 1)) (by omega)
    have e1 := h1 (s - 1) x y (by omega) (by omega) hx hy
    have e2 := asc_get hV hy hjv (by omega)
    have e3 := asc_get hU hiu hx (by omega)
    omega

/-- Sorted in blocks of s, from lo to hi. -/
def Blk (cl : Nat → Nat) (s lo hi : Nat) (X : List Nat) : Prop := ∀ i j x y, lo ≤ i → i ≤ j → j < hi → i / s = j / s → X[i]? = some x → X[j]? = some y → cl x ≤ cl y
theorem Blk.none (s lo : Nat) (X : List Nat) : Blk cl s lo lo X := fun i j _ _ h1 h2 h3 => by omega
theorem div_at {k s i : Nat} (hi : i < s) : (k * s + i) / s = k := by
  rw [Nat.mul_comm, Nat.mul_add_div (by omega), Nat.div_eq_of_lt hi, Nat.add_zero]
theorem get_left {P R : List Nat} {i : Nat} (h : i < P.length) : (P ++ R)[i]? = P[i]? := List.getElem?_append_left h
theorem get_right {P R : List Nat} {i : Nat} (h : P.length ≤ i) : (P ++ R)[i]? = R[i - P.length]? := List.getElem?_append_right h
theorem asc_of_blk {s lo hi k : Nat} {P U R : List Nat} (h : Blk cl s lo hi (P ++ (U ++ R))) (h1 : lo ≤ P.length) (h2 : P.length + U.length ≤ hi) (hk : P.length = k * s) (hs : U.length ≤ s) : Asc cl U := by
  refine List.pairwise_iff_getElem.2 fun i j hi' hj' hij => ?_
  refine h (P.length + i) (P.length + j) _ _ (by omega) (by omega) (by omega) ?_ ?_ ?_
  · rw [hk, div_at (by omega), div_at (by omega)]
  · rw [get_right (by omega), Nat.add_sub_cancel_left, get_left hi']
    exact List.getElem?_eq_getElem hi'
  · rw [get_right (by omega), Nat.add_sub_cancel_left, get_left hj']
    exact List.getElem?_eq_getElem hj'
theorem blk_step {s k : Nat} {P M Q R : List Nat} (h : Blk cl s 0 P.length (P ++ R)) (hM : Asc cl M) (hs : M.length ≤ s) (hk : P.length = k * s) : Blk cl s 0 (P.length + M.length) (P ++ (M ++ Q)) := by
  intro i j x y _ h2 h3 h4 hx hy
  by_cases hj : j < P.length
  · rw [get_left (by omega)] at hx hy
    exact h i j x y (Nat.zero_le _) h2 hj h4 (by rw [get_left (by omega)]; exact hx) (by rw [get_left (by omega)]; exact hy)
  · have e : j / s = k := by
      have : j = k * s + (j - P.length) := by omega
      rw [this, div_at (by omega)]
    have hi : P.length ≤ i := by
      have := Nat.div_mul_le_self i s
      rw [h4, e] at this
      omega
    rw [get_right (by omega), get_left (by omega)] at hx hy
    exact asc_get hM hx hy (by omega)
/-- What lies behind is as it was. -/
theorem blk_behind {s lo hi : Nat} {P U M Q : List Nat} (h : Blk cl s lo hi (P ++ (U ++ Q))) (hl : M.length = U.length) (h1 : lo ≤ P.length + U.length) : Blk cl s (P.length + M.length) hi (P ++ (M ++ Q)) := by
  intro i j x y h2 h3 h4 h5 hx hy
  refine h i j x y (by omega) h3 h4 h5 ?_ ?_
  · rw [get_right (by omega), get_right (by omega)] at hx ⊢
    rw [hl] at hx
    exact hx
  · rw [get_right (by omega), get_right (by omega)] at hy ⊢
    rw [hl] at hy
    exact hy
theorem asc_all {s : Nat} {X : List Nat} (h : Blk cl s 0 X.length X) (hs : X.length ≤ s) : Asc cl X := by
  have := asc_of_blk (P := []) (U := X) (R := []) (k := 0) (s := s) (lo := 0) (hi := X.length) (by simpa using h) (by simp) (by simp) (by simp) hs
  exact this
theorem Blk.less {s lo hi hi' : Nat} {X : List Nat} (h : Blk cl s lo hi X) (hh : hi' ≤ hi) : Blk cl s lo hi' X := fun i j x y h1 h2 h3 => h i j x y h1 h2 (by omega)
/-- The last part, no longer than one block, is sorted as it is. -/
theorem blk_tail {s k : Nat} {P U : List Nat} (h : Blk cl (2 * s) 0 P.length (P ++ U)) (h2 : Blk cl s P.length (P.length + U.length) (P ++ U)) (hk : P.length = k * (2 * s)) (hs : U.length ≤ s) : Blk cl (2 * s) 0 (P.length + U.length) (P ++ U) := by
  have hA : Asc cl U := asc_of_blk (k := k * 2) (P := P) (U := U) (R := []) (s := s) (by simpa using h2) (Nat.le_refl _) (Nat.le_refl _) (by rw [hk, Nat.mul_assoc]) hs
  have := blk_step (M := U) (Q := []) (k := k) h hA (by omega) hk
  simpa using this
theorem Blk.over {s lo hi n : Nat} {X : List Nat} (h : Blk cl s lo hi X) (hn : X.length ≤ hi) : Blk cl s lo n X := fun i j x y h1 h2 _ h4 hx hy => h i j x y h1 h2 (by have := get_lt hy; omega) h4 hx hy
end

end Go.Proofs.YtomkipddbmnipaaDoor
