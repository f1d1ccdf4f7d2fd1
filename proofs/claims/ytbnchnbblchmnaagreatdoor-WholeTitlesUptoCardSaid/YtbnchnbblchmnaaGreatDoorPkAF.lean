/-
  The program's table of spans: what it holds when a call begins, and that it says of each number what the document's table says.
  The program's Class and Has: a search among the spans.
  The program's Has, encoded, Count: ranges over a string.
-/
import Derived.Test.YtbnchnbblchmnaaGreatDoorPkAC
import Derived.Test.YtbnchnbblchmnaaGreatDoorPkAE
import Derived.Test.YtbnchnbblchmnaaGreatDoorRows
import Derived.BigQuiet
namespace Go.Proofs.YtbnchnbblchmnaaGreatDoor
open Go.RowKit

/-- First, last, script, kind. -/
def tabL : List (Nat × Nat × Nat × Nat) := [
  (32, 32, 0, 4), (33, 47, 0, 5), (48, 57, 0, 3), (58, 64, 0, 5), (65, 90, 1, 1), (91, 96, 0, 5), (97, 122, 1, 1), (123, 126, 0, 5), (160, 160, 0, 4), (178, 179, 0, 3), (185, 185, 0, 3), (192, 214, 1, 1), (216, 246, 1, 1), (248, 305, 1, 1), (308, 311, 1, 1), (313, 318, 1, 1), (321, 328, 1, 1), (330, 383, 1, 1),
  (768, 772, 0, 2), (774, 776, 0, 2), (778, 780, 0, 2), (803, 803, 0, 2), (807, 808, 0, 2), (902, 902, 2, 1), (904, 906, 2, 1), (908, 908, 2, 1), (910, 911, 2, 1), (913, 929, 2, 1), (931, 943, 2, 1), (945, 974, 2, 1), (1025, 1025, 3, 1), (1028, 1028, 3, 1), (1030, 1031, 3, 1), (1038, 1038, 3, 1), (1040, 1103, 3, 1), (1105, 1105, 3, 1), (1108, 1108, 3, 1), (1110, 1111, 3, 1), (1118, 1118, 3, 1), (1168, 1169, 3, 1), (64257, 64258, 1, 1)]
theorem tab_len : tabL.length = 41 := rfl
def spanList : List Value := tabL.flatMap fun x => [Value.int .u16 (x.1 : Int), .int .u16 (x.2.1 : Int), .int .u8 (x.2.2.1 : Int), .int .u8 (x.2.2.2 : Int)]
def spanCells : Array Value := spanList.toArray
theorem span_get (j : Nat) : spanCells[j]? = spanList[j]? := List.getElem?_toArray
/-- When the world stands, the program's table is as it was laid. -/
def Spans (w : World) : Prop := ∃ t fz, w.heap[0]? = some (.cells spanCells t fz)
theorem Spans.lt {w : World} (h : Spans w) : 0 < w.heap.size := by
  obtain ⟨t, fz, h⟩ := h
  exact (Array.getElem?_eq_some_iff.1 h).1
theorem Spans.below {w w' : World} (h : Spans w) (hb : Below w.heap.size w w') : Spans w' := by
  have hl := h.lt
  obtain ⟨t, fz, h⟩ := h
  exact ⟨t, fz, (hb.block 0 hl).trans h⟩
theorem Spans.cell {w : World} (h : Spans w) (j : Nat) : w.cell? ⟨0, j, none⟩ = spanCells[j]? := by
  obtain ⟨t, fz, h⟩ := h
  exact Go.cell_of_row w 0 j spanCells t fz h
theorem spans_of_laid {w : World} (h : laidMet Tryz.prog [("bookplate/repertoire.spans", Rows.laid_bookplate_repertoire_spans)] w) : Spans w := by
  obtain ⟨u, fz, h1⟩ := laid_flat h (g := 0) (t := 120) (by kernel_rfl) (by kernel_rfl) (by kernel_rfl)
  have e : (flat (Rows.laid_bookplate_repertoire_spans (H := Unit))).toArray = spanCells := by kernel_rfl
  rw [e] at h1
  exact ⟨u, fz, h1⟩

def spanAt (i : Nat) : Nat × Nat × Nat × Nat := tabL.getD i (0, 0, 0, 0)
theorem flat4 {α β : Type} (a b c d : α → β) : ∀ (l : List α) (i : Nat) (x : α), l[i]? = some x →
    (l.flatMap fun x => [a x, b x, c x, d x])[i * 4]? = some (a x) ∧ (l.flatMap fun x => [a x, b x, c x, d x])[i * 4 + 1]? = some (b x) ∧ (l.flatMap fun x => [a x, b x, c x, d x])[i * 4 + 2]? = some (c x) ∧ (l.flatMap fun x => [a x, b x, c x, d x])[i * 4 + 3]? = some (d x)
  | [], i, x, h => by simp at h
  | y :: l, 0, x, h => by
    simp at h
    subst h
    exact ⟨rfl, rfl, rfl, rfl⟩
  | y :: l, i + 1, x, h => by
    have := flat4 a b c d l i x (by simpa using h)
    rw [List.flatMap_cons]
    have e : ∀ j, ([a y, b y, c y, d y] ++ l.flatMap fun x => [a x, b x, c x, d x])[(i + 1) * 4 + j]? = (l.flatMap fun x => [a x, b x, c x, d x])[i * 4 + j]? := by
      intro j
      rw [List.getElem?_append_right (by simp; omega)]
      congr 1
      simp
      omega
    have e0 := e 0
    rw [Nat.add_zero, Nat.add_zero] at e0
    rw [e0, e 1, e 2, e 3]
    exact this
theorem tab_get {i : Nat} (hi : i < 41) : tabL[i]? = some (spanAt i) := by
  unfold spanAt
  rw [List.getD, List.getElem?_eq_getElem (by rw [tab_len]; exact hi)]
  rfl
theorem Spans.cells {w : World} (h : Spans w) {i : Nat} (hi : i < 41) : w.cell? ⟨0, i * 4, none⟩ = some (.int .u16 ((spanAt i).1 : Int)) ∧ w.cell? ⟨0, i * 4 + 1, none⟩ = some (.int .u16 ((spanAt i).2.1 : Int)) ∧
    w.cell? ⟨0, i * 4 + 2, none⟩ = some (.int .u8 ((spanAt i).2.2.1 : Int)) ∧ w.cell? ⟨0, i * 4 + 3, none⟩ = some (.int .u8 ((spanAt i).2.2.2 : Int)) := by
  have := flat4 (fun x : Nat × Nat × Nat × Nat => Value.int .u16 (x.1 : Int)) (fun x => .int .u16 (x.2.1 : Int)) (fun x => .int .u8 (x.2.2.1 : Int)) (fun x => .int .u8 (x.2.2.2 : Int)) tabL i (spanAt i) (tab_get hi)
  rw [h.cell, h.cell, h.cell, h.cell, span_get, span_get, span_get, span_get]
  exact this

/-! The table says what the document says. -/
def ltPairs : List (Nat × Nat × Nat × Nat) → Bool
  | a :: b :: l => Nat.ble a.1 a.2.1 && Nat.blt a.2.1 b.1 && ltPairs (b :: l)
  | [a] => Nat.ble a.1 a.2.1
  | [] => true
theorem tab_asc : ltPairs tabL = true := by kernel_rfl
theorem last_asc : ∀ i j : Fin 41, i.val ≤ j.val → (spanAt i.val).2.1 ≤ (spanAt j.val).2.1 := by decide +kernel
theorem first_asc : ∀ i : Fin 41, ∀ j : Fin 41, i.val < j.val → (spanAt i.val).2.1 < (spanAt j.val).1 := by decide +kernel
theorem span_small : ∀ i : Fin 41, (spanAt i.val).1 ≤ 65535 ∧ (spanAt i.val).2.1 ≤ 65535 ∧ (spanAt i.val).2.2.1 ≤ 255 ∧ (spanAt i.val).2.2.2 ≤ 255 := by decide +kernel

/-- All numbers of a span have its class. -/
theorem span_class : (tabL.all fun x => (List.range' x.1 (x.2.1 + 1 - x.1)).all fun c => Nat.beq (clsA c).1 x.2.2.1 && Nat.beq (clsA c).2 x.2.2.2) = true := by kernel_rfl
/-- All characters that are not fullwidth lie in a span. -/
theorem class_span : (((List.range' 0 1536).filter hasA ++ [64257, 64258]).all fun c => tabL.any fun x => inN c x.1 x.2.1) = true := by kernel_rfl
theorem hasA_range {c : Nat} (h : hasA c = true) : c < 1536 ∨ c = 64257 ∨ c = 64258 := by
  unfold hasA inN at h
  simp only [Bool.or_eq_true, Bool.and_eq_true, Nat.ble_eq, Nat.beq_eq] at h
  omega
/-- What the search finds: the first span that does not end ahead of c. -/
theorem cls_by_span {c : Int} {i : Nat} (h1 : ∀ t, t < i → ((spanAt t).2.1 : Int) < c) (h2 : ∀ t, i ≤ t → t < 41 → c ≤ ((spanAt t).2.1 : Int)) (hi : i ≤ 41) :
    clsN c = if i = 41 ∨ c < ((spanAt i).1 : Int) then (0, 0) else ((spanAt i).2.2.1, (spanAt i).2.2.2) := by
  have hget : ∀ t, t < 41 → tabL[t]? = some (spanAt t) := fun t ht => tab_get ht
  by_cases hn : i = 41 ∨ c < ((spanAt i).1 : Int)
  · rw [if_pos hn]
    -- no span holds c
    have hno : ∀ t, t < 41 → ¬ (((spanAt t).1 : Int) ≤ c ∧ c ≤ ((spanAt t).2.1 : Int)) := by
      rintro t ht ⟨a, b⟩
      by_cases hti : t < i
      · have := h1 t hti; omega
      · rcases hn with hn | hn
        · omega
        · rcases Nat.lt_or_ge i t with h | h
          · have := first_asc ⟨i, by omega⟩ ⟨t, ht⟩ h
            have h3 := h2 i (Nat.le_refl _) (by omega)
            simp only at this
            omega
          · obtain rfl : t = i := by omega
            omega
    by_cases hc0 : c < 0
    · have hf : hasR c = false := by
        cases h : hasR c with
        | false => rfl
        | true => have := has_range h; omega
      have hk : clsR c = clsN c := by unfold clsR; rw [inB_false (by omega), if_neg (by decide)]
      unfold clsN
      rw [inB_false (by omega), inB_false (by omega), inB_false (by omega), inB_false (by omega), inB_false (by omega), inB_false (by omega), inB_false (by omega), inB_false (by omega), inB_false (by omega), inB_false (by omega), inB_false (by omega)]
      have hm : ∀ l : List Nat, memB l c = false := by
        intro l
        unfold memB
        rw [List.any_eq_false]
        intro d _
        simp
        omega
      rw [hm, hm, hm]
      have e : ∀ d : Int, 0 ≤ d → (c == d) = false := fun d hd => eqb_false (by omega)
      rw [e 32 (by omega), e 160 (by omega), e 178 (by omega), e 179 (by omega), e 185 (by omega), e 383 (by omega), e 64257 (by omega), e 64258 (by omega), e 803 (by omega), e 807 (by omega), e 808 (by omega)]
      rfl
    · obtain ⟨m, rfl⟩ : ∃ m : Nat, c = (m : Int) := ⟨c.toNat, by omega⟩
      rw [clsA_eq]
      refine clsA_none ?_
      cases h : hasA m with
      | false => rfl
      | true =>
        exfalso
        have hr := hasA_range h
        have hmem : m ∈ (List.range' 0 1536).filter hasA ++ [64257, 64258] := by
          rw [List.mem_append]
          rcases hr with hr | hr | hr
          · exact .inl (List.mem_filter.2 ⟨List.mem_range'_1.2 ⟨by omega, by omega⟩, h⟩)
          · exact .inr (by simp [hr])
          · exact .inr (by simp [hr])
        have h3 := List.all_eq_true.1 class_span m hmem
        obtain ⟨x, hx, hin⟩ := List.any_eq_true.1 h3
        obtain ⟨t, ht⟩ := List.getElem?_of_mem hx
        have htl : t < 41 := by rw [← tab_len]; exact (List.getElem?_eq_some_iff.1 ht).1
        have := hget t htl
        rw [ht] at this
        injection this with this
        subst this
        unfold inN at hin
        rw [Bool.and_eq_true, Nat.ble_eq, Nat.ble_eq] at hin
        exact hno t htl ⟨by omega, by omega⟩
  · rw [if_neg hn]
    have hi' : i < 41 := by omega
    have hlo : ((spanAt i).1 : Int) ≤ c := by omega
    have hhi := h2 i (Nat.le_refl _) hi'
    obtain ⟨m, rfl⟩ : ∃ m : Nat, c = (m : Int) := ⟨c.toNat, by omega⟩
    rw [clsA_eq]
    have h3 := List.all_eq_true.1 span_class (spanAt i) (List.mem_of_getElem? (hget i hi'))
    have h4 := List.all_eq_true.1 h3 m (List.mem_range'_1.2 ⟨by omega, by omega⟩)
    rw [Bool.and_eq_true, Nat.beq_eq, Nat.beq_eq] at h4
    rw [← h4.1, ← h4.2]

end Go.Proofs.YtbnchnbblchmnaaGreatDoor

namespace Go.Proofs.YtbnchnbblchmnaaGreatDoor
open Go.RowKit

def lastOf (i : Nat) : Nat := (spanAt i).2.1
def firstOf (i : Nat) : Nat := (spanAt i).1

set_option maxRecDepth 20000 in
set_option maxHeartbeats 1600000 in
theorem pred_any (c : Int) (b i : Nat) (w : World) (hS : Spans w) (hi : i < 41) (hc : w.cell? ⟨b, 0, none⟩ = some (.int .i64 c)) :
    Calls Tryz.prog 80 #[.int .i64 (i : Int), .pointer (some ⟨b, 0, none⟩)] w fun e w' => e = .returned (.bool (decide (c ≤ (lastOf i : Int)))) ∧ ∃ q, w' = w.drewN q := by
  have h1 := (hS.cells hi).2.1
  have hs := span_small ⟨i, hi⟩
  obtain ⟨z, hz⟩ : ∃ z, z = (spanAt i).2.1 := ⟨_, rfl⟩
  have hlz : lastOf i = z := hz.symm
  simp only at hs
  rw [← hz] at h1 hs
  rw [hlz]
  clear hz hlz hS
  have hi1 : (i : Int) < (41 : Int) := by omega
  go_enter Tryz.func80, Tryz.ntmps80
  go_wp2
  go_quiet (fail)
  go_wp2
  go_ret
  exact ⟨rfl, nq, rfl⟩

set_option maxRecDepth 20000 in
set_option maxHeartbeats 1600000 in
theorem search_any (c : Int) (b : Nat) (w : World) (hS : Spans w) (hc : w.cell? ⟨b, 0, none⟩ = some (.int .i64 c)) :
    Calls Tryz.prog 79 #[.int .i64 41, .func (.func 80) #[] #[.pointer (some ⟨b, 0, none⟩)]] w fun e w' =>
      ∃ i : Nat, e = .returned (.int .i64 (i : Int)) ∧ i ≤ 41 ∧ (∀ t, t < i → (lastOf t : Int) < c) ∧ (∀ t, i ≤ t → t < 41 → c ≤ (lastOf t : Int)) ∧ ∃ q, w' = w.drewN q := by
  have HP := Lib.hid fun (i q : Nat) (hi : i < 41) => pred_any c b i (w.drewN q) hS hi hc
  clear hS hc
  go_enter Tryz.func79, Tryz.ntmps79
  go_wp2
  go_loopw [5, 6] (fun s5 s6 wr => ∃ lo hi q : Nat, s5 = .int .i64 (lo : Int) ∧ s6 = .int .i64 (hi : Int) ∧ lo ≤ hi ∧ hi ≤ 41 ∧ wr = w.drewN q ∧
    Hid ((∀ t, t < lo → (lastOf t : Int) < c) ∧ (∀ t, hi ≤ t → t < 41 → c ≤ (lastOf t : Int)))) (fun s5 s6 _ => (intOf s6).toNat - (intOf s5).toNat)
  case atStart => exact ⟨0, 41, 0, rfl, rfl, by omega, by omega, rfl, Lib.hid ⟨fun t ht => by omega, fun t h1 h2 => by omega⟩⟩
  case round =>
    obtain ⟨lo, hi, q, rfl, rfl, hlh, hh, rfl, HI⟩ := hrel
    by_cases hlt : lo < hi
    · have t0 : decide ((lo : Int) < (hi : Int)) = true := by simp; omega
      obtain ⟨m, hm⟩ : ∃ m, m = (lo + hi) / 2 := ⟨_, rfl⟩
      have hm1 : ((lo : Int) + (hi : Int)) / 2 = (m : Int) := by omega
      have hml : lo ≤ m := by omega
      have hmh : m < hi := by omega
      have hC := HP.out m q (by omega)
      by_cases hp : c ≤ (lastOf m : Int)
      · have HE : Hid ((∀ t, t < lo → (lastOf t : Int) < c) ∧ (∀ t, m ≤ t → t < 41 → c ≤ (lastOf t : Int))) := Lib.hid ⟨HI.out.1, fun t h1 h2 => by
          have := last_asc ⟨m, by omega⟩ ⟨t, h2⟩ h1
          unfold lastOf at *
          simp only at this
          omega⟩
        rw [decide_eq_true hp] at hC
        have HC := Lib.hid hC
        clear hC hm hp
        go_wp2_with fail
        try rw [hm1]
        refine HC.out.mono ?_
        rintro e w' ⟨rfl, q2, rfl⟩
        go_wp2
        go_roundw
        case rel => exact ⟨lo, m, _, rfl, by go_num, hml, by omega, rfl, HE⟩
        case measure => simp [intOf]; omega
      · have HE : Hid ((∀ t, t < m + 1 → (lastOf t : Int) < c) ∧ (∀ t, hi ≤ t → t < 41 → c ≤ (lastOf t : Int))) := Lib.hid ⟨fun t ht => by
          have := last_asc ⟨t, by omega⟩ ⟨m, by omega⟩ (show t ≤ m by omega)
          unfold lastOf at *
          simp only at this
          omega, HI.out.2⟩
        rw [decide_eq_false hp] at hC
        have HC := Lib.hid hC
        clear hC hm hp
        go_wp2_with fail
        try rw [hm1]
        refine HC.out.mono ?_
        rintro e w' ⟨rfl, q2, rfl⟩
        go_wp2
        go_roundw
        case rel => exact ⟨m + 1, hi, _, by go_num, rfl, by omega, hh, rfl, HE⟩
        case measure => simp [intOf]; omega
    · obtain rfl : lo = hi := by omega
      go_wp2
      go_ret
      exact ⟨lo, rfl, hh, HI.out.1, HI.out.2, q, rfl⟩

/-- The number whose span is looked for. -/
def plainC (c : Int) : Int := if inB c 65281 65374 = true then c - 65248 else c
theorem clsR_plain (c : Int) : clsR c = clsN (plainC c) := by
  unfold clsR plainC
  split <;> rfl

set_option maxRecDepth 20000 in
set_option maxHeartbeats 1600000 in
theorem prClass_any (c : Int) (w : World) (hS : Spans w) :
    Calls Tryz.prog 47 #[.int .i64 c] w fun e w' => e = .returned (two (clsR c).1 (clsR c).2) ∧ Below w.heap.size w w' := by
  obtain ⟨R, hR⟩ : ∃ R, clsR c = R := ⟨_, rfl⟩
  have HR : Hid (clsN (plainC c) = R) := Lib.hid (by rw [← clsR_plain]; exact hR)
  rw [hR]
  clear hR
  by_cases h1 : 65281 ≤ c
  · have t1 : decide (65281 ≤ c) = true := by simpa using h1
    by_cases h2 : c ≤ 65374
    · have t2 : decide (c ≤ 65374) = true := by simpa using h2
      have hp : plainC c = c - 65248 := by unfold plainC inB; rw [t1, t2]; rfl
      rw [hp] at HR
      go_enter Tryz.func47, Tryz.ntmps47
      go_wp2_with fail
      have hb := below_new (Below.refl w.heap.size w) (.cells #[.int .i64 (c - 65248)] 3)
      have hcell : (w.alloc (.cells #[.int .i64 (c - 65248)] 3)).cell? ⟨w.heap.size, 0, none⟩ = some (.int .i64 (c - 65248)) := (Box.made w 3 #[.int .i64 (c - 65248)]).cell 0
      refine (search_any (c - 65248) w.heap.size _ (hS.below hb) hcell).mono ?_
      rintro e w' ⟨i, rfl, hi, hlo, hhi, q, rfl⟩
      have hcls := cls_by_span hlo hhi hi
      rw [HR.out] at hcls
      have HC := Lib.hid hcls
      clear hcls hlo hhi
      by_cases h41 : i = 41
      · subst h41
        have t4 : (((41 : Nat) : Int) == 41) = true := rfl
        have HE : Hid (R = (0, 0)) := Lib.hid (by rw [HC.out, if_pos (.inl rfl)])
        go_wp2
        go_quiet (fail)
        go_wp2
        go_ret2
        rw [HE.out]
        exact ⟨ret_two rfl rfl, by repeat first | exact hb | refine below_drewN ?_ _⟩
      · have t4 : ((i : Int) == 41) = false := eqb_false (by omega)
        have hi4 : i < 41 := by omega
        have hiz : (i : Int) < (41 : Int) := by omega
        obtain ⟨c0, c1, c2, c3⟩ := (hS.below hb).cells hi4
        have hsm := span_small ⟨i, hi4⟩
        simp only at hsm
        obtain ⟨sp, hsp⟩ : ∃ sp, spanAt i = sp := ⟨_, rfl⟩
        rw [hsp] at c0 c1 c2 c3 hsm HC
        obtain ⟨fi, la, sc, ki⟩ := sp
        obtain ⟨s1, s2, s3, s4⟩ := hsm
        simp only at c0 c1 c2 c3 s1 s2 s3 s4
        clear hsp
        by_cases hf : (c - 65248) < (fi : Int)
        · have t5 : decide ((c - 65248) < (fi : Int)) = true := by simpa using hf
          have HE : Hid (R = (0, 0)) := Lib.hid (by rw [HC.out, if_pos (.inr hf)])
          go_wp2
          go_quiet (fail)
          go_wp2
          go_ret2
          rw [HE.out]
          exact ⟨ret_two rfl rfl, by repeat first | exact hb | refine below_drewN ?_ _⟩
        · have t5 : decide ((c - 65248) < (fi : Int)) = false := by simpa using hf
          have HE : Hid (R = (sc, ki)) := Lib.hid (by rw [HC.out, if_neg (fun h => h.elim h41 hf)])
          go_wp2
          go_quiet (fail)
          go_wp2
          go_quiet (fail)
          go_wp2
          go_ret2
          rw [HE.out]
          exact ⟨ret_two rfl rfl, by repeat first | exact hb | refine below_drewN ?_ _⟩
    · have t2 : decide (c ≤ 65374) = false := by simpa using h2
      have hp : plainC c = c := by unfold plainC inB; rw [t1, t2]; rfl
      rw [hp] at HR
      go_enter Tryz.func47, Tryz.ntmps47
      go_wp2_with fail
      have hb := below_new (Below.refl w.heap.size w) (.cells #[.int .i64 (c)] 3)
      have hcell : (w.alloc (.cells #[.int .i64 (c)] 3)).cell? ⟨w.heap.size, 0, none⟩ = some (.int .i64 (c)) := (Box.made w 3 #[.int .i64 (c)]).cell 0
      refine (search_any (c) w.heap.size _ (hS.below hb) hcell).mono ?_
      rintro e w' ⟨i, rfl, hi, hlo, hhi, q, rfl⟩
      have hcls := cls_by_span hlo hhi hi
      rw [HR.out] at hcls
      have HC := Lib.hid hcls
      clear hcls hlo hhi
      by_cases h41 : i = 41
      · subst h41
        have t4 : (((41 : Nat) : Int) == 41) = true := rfl
        have HE : Hid (R = (0, 0)) := Lib.hid (by rw [HC.out, if_pos (.inl rfl)])
        go_wp2
        go_quiet (fail)
        go_wp2
        go_ret2
        rw [HE.out]
        exact ⟨ret_two rfl rfl, by repeat first | exact hb | refine below_drewN ?_ _⟩
      · have t4 : ((i : Int) == 41) = false := eqb_false (by omega)
        have hi4 : i < 41 := by omega
        have hiz : (i : Int) < (41 : Int) := by omega
        obtain ⟨c0, c1, c2, c3⟩ := (hS.below hb).cells hi4
        have hsm := span_small ⟨i, hi4⟩
        simp only at hsm
        obtain ⟨sp, hsp⟩ : ∃ sp, spanAt i = sp := ⟨_, rfl⟩
        rw [hsp] at c0 c1 c2 c3 hsm HC
        obtain ⟨fi, la, sc, ki⟩ := sp
        obtain ⟨s1, s2, s3, s4⟩ := hsm
        simp only at c0 c1 c2 c3 s1 s2 s3 s4
        clear hsp
        by_cases hf : (c) < (fi : Int)
        · have t5 : decide ((c) < (fi : Int)) = true := by simpa using hf
          have HE : Hid (R = (0, 0)) := Lib.hid (by rw [HC.out, if_pos (.inr hf)])
          go_wp2
          go_quiet (fail)
          go_wp2
          go_ret2
          rw [HE.out]
          exact ⟨ret_two rfl rfl, by repeat first | exact hb | refine below_drewN ?_ _⟩
        · have t5 : decide ((c) < (fi : Int)) = false := by simpa using hf
          have HE : Hid (R = (sc, ki)) := Lib.hid (by rw [HC.out, if_neg (fun h => h.elim h41 hf)])
          go_wp2
          go_quiet (fail)
          go_wp2
          go_quiet (fail)
          go_wp2
          go_ret2
          rw [HE.out]
          exact ⟨ret_two rfl rfl, by repeat first | exact hb | refine below_drewN ?_ _⟩
  · have t1 : decide (65281 ≤ c) = false := by simpa using h1
    have hp : plainC c = c := by unfold plainC inB; rw [t1]; rfl
    rw [hp] at HR
    go_enter Tryz.func47, Tryz.ntmps47
    go_wp2_with fail
    have hb := below_new (Below.refl w.heap.size w) (.cells #[.int .i64 (c)] 3)
    have hcell : (w.alloc (.cells #[.int .i64 (c)] 3)).cell? ⟨w.heap.size, 0, none⟩ = some (.int .i64 (c)) := (Box.made w 3 #[.int .i64 (c)]).cell 0
    refine (search_any (c) w.heap.size _ (hS.below hb) hcell).mono ?_
    rintro e w' ⟨i, rfl, hi, hlo, hhi, q, rfl⟩
    have hcls := cls_by_span hlo hhi hi
    rw [HR.out] at hcls
    have HC := Lib.hid hcls
    clear hcls hlo hhi
    by_cases h41 : i = 41
    · subst h41
      have t4 : (((41 : Nat) : Int) == 41) = true := rfl
      have HE : Hid (R = (0, 0)) := Lib.hid (by rw [HC.out, if_pos (.inl rfl)])
      go_wp2
      go_quiet (fail)
      go_wp2
      go_ret2
      rw [HE.out]
      exact ⟨ret_two rfl rfl, by repeat first | exact hb | refine below_drewN ?_ _⟩
    · have t4 : ((i : Int) == 41) = false := eqb_false (by omega)
      have hi4 : i < 41 := by omega
      have hiz : (i : Int) < (41 : Int) := by omega
      obtain ⟨c0, c1, c2, c3⟩ := (hS.below hb).cells hi4
      have hsm := span_small ⟨i, hi4⟩
      simp only at hsm
      obtain ⟨sp, hsp⟩ : ∃ sp, spanAt i = sp := ⟨_, rfl⟩
      rw [hsp] at c0 c1 c2 c3 hsm HC
      obtain ⟨fi, la, sc, ki⟩ := sp
      obtain ⟨s1, s2, s3, s4⟩ := hsm
      simp only at c0 c1 c2 c3 s1 s2 s3 s4
      clear hsp
      by_cases hf : (c) < (fi : Int)
      · have t5 : decide ((c) < (fi : Int)) = true := by simpa using hf
        have HE : Hid (R = (0, 0)) := Lib.hid (by rw [HC.out, if_pos (.inr hf)])
        go_wp2
        go_quiet (fail)
        go_wp2
        go_ret2
        rw [HE.out]
        exact ⟨ret_two rfl rfl, by repeat first | exact hb | refine below_drewN ?_ _⟩
      · have t5 : decide ((c) < (fi : Int)) = false := by simpa using hf
        have HE : Hid (R = (sc, ki)) := Lib.hid (by rw [HC.out, if_neg (fun h => h.elim h41 hf)])
        go_wp2
        go_quiet (fail)
        go_wp2
        go_quiet (fail)
        go_wp2
        go_ret2
        rw [HE.out]
        exact ⟨ret_two rfl rfl, by repeat first | exact hb | refine below_drewN ?_ _⟩

end Go.Proofs.YtbnchnbblchmnaaGreatDoor

namespace Go.Proofs.YtbnchnbblchmnaaGreatDoor
open Go.RowKit

set_option maxHeartbeats 1600000 in
theorem prHas_any (c : Int) (w : World) (hS : Spans w) :
    Calls Tryz.prog 110 #[.int .i64 c] w fun e w' => e = .returned (.bool (hasR c)) ∧ Below w.heap.size w w' := by
  have hcl := prClass_any c w hS
  obtain ⟨a, ha⟩ : ∃ a, a = (clsR c).1 := ⟨_, rfl⟩
  obtain ⟨b, hb⟩ : ∃ b, b = (clsR c).2 := ⟨_, rfl⟩
  rw [← ha, ← hb] at hcl
  have HC := Lib.hid hcl
  have HB : Hid (hasR c = (b != 0)) := Lib.hid (by rw [hb]; rfl)
  clear hcl ha hb
  go_enter Tryz.func110, Tryz.ntmps110
  go_wp2_with fail
  refine HC.out.mono ?_
  rintro e w1 ⟨rfl, k1⟩
  unfold two
  go_wp2
  go_ret
  rw [HB.out]
  refine ⟨ret_bool ?_, k1⟩
  cases b <;> simp
  omega

theorem iterPos_at {w : World} {k p : Nat} {s : ByteArray} (h : w.heap[k]? = some (.stringIter s p)) : w.iterPos k = p := by simp [World.iterPos, h]
theorem isSome_of {s : List UInt8} {l : List Nat} (h : decR s = some l) : (decR s).isSome = true := by rw [h]; rfl
theorem isSome_no {s : List UInt8} (h : decR s = none) : (decR s).isSome = false := by rw [h]; rfl

set_option maxRecDepth 20000 in
set_option maxHeartbeats 1600000 in
theorem encoded_any (s : List UInt8) (w : World) (hS : Spans w) :
    Calls Tryz.prog 111 #[.string (str s)] w fun e w' => e = .returned (.bool (decR s).isSome) ∧ Below w.heap.size w w' := by
  have hsz : (str s).size = s.length := rfl
  obtain ⟨R, hR⟩ : ∃ R, (decR s).isSome = R := ⟨_, rfl⟩
  rw [hR]
  have HR := Lib.hid hR
  clear hR
  go_enter Tryz.func111, Tryz.ntmps111
  go_wp2
  go_loopw [] (fun wr => ∃ (pos : Nat) (l : List Nat), wr.heap[w.heap.size]? = some (.stringIter (str s) pos) ∧ Hid (Past s pos l) ∧ Below w.heap.size w wr) (fun wr => s.length - wr.iterPos w.heap.size)
  case atStart =>
    exact ⟨0, [], World.iter_heap w (str s) 0, Lib.hid (Past.start s), (Below.refl _ _).alloc (Nat.le_refl _) _⟩
  case round =>
    obtain ⟨pos, l, hit, HP, hb⟩ := hrel
    have hks : w.heap.size < wr.heap.size := (Array.getElem?_eq_some_iff.1 hit).1
    by_cases hp : pos < s.length
    · obtain ⟨c, n, hcn⟩ : ∃ c n, Utf8.decode (str s) pos = (c, n) := ⟨_, _, rfl⟩
      have hnx : ∀ ty, (Instr.next (.pointer (some ⟨w.heap.size, 0, none⟩)) true ty).run Tryz.prog wr = _ := fun ty => Lib.run_next_any_at wr w.heap.size (str s) pos ty hit hp
      have hit2 := Lib.iterAt_heap wr w.heap.size (str s) pos (pos + (Utf8.decode (str s) pos).2) hit
      have hbw2 := Lib.below_iterAt hb (k := w.heap.size) (Nat.le_refl _) (str s) (pos + (Utf8.decode (str s) pos).2)
      have hcm := decode_le (str s) pos
      simp only [hcn] at hnx hit2 hbw2 hcm
      have hcz : (c : Int) ≤ 2147483647 := by omega
      have hcz0 : (0 : Int) ≤ (c : Int) := by omega
      have hS2 : Spans _ := hS.below hbw2
      have HH := Lib.hid (prHas_any (c : Int) _ hS2)
      cases hc : hasR (c : Int) with
      | true =>
        obtain ⟨h1, h0⟩ := HP.out.rune hp hcn hc
        have HN := Lib.hid h1
        have hle := h1.1
        rw [hc] at HH
        clear hcn h1 hc
        go_wp2_with fail
        refine HH.out.mono ?_
        rintro e w3 ⟨rfl, k3⟩
        go_wp2
        go_roundw
        case rel => exact ⟨pos + n, l ++ [c], (k3.block _ (Array.getElem?_eq_some_iff.1 hit2).1).trans hit2, HN, below_next hbw2 k3⟩
        case measure =>
          rw [iterPos_at ((k3.block _ (Array.getElem?_eq_some_iff.1 hit2).1).trans hit2), iterPos_at hit]
          omega
      | false =>
        have hn := HP.out.rune_bad hp hcn hc
        have HE : Hid (R = false) := Lib.hid (by rw [← HR.out]; exact isSome_no hn)
        rw [hc] at HH
        clear hcn hc hn
        go_wp2_with fail
        refine HH.out.mono ?_
        rintro e w3 ⟨rfl, k3⟩
        go_wp2
        go_ret
        rw [HE.out]
        exact ⟨rfl, below_next hbw2 k3⟩
    · have HE : Hid (R = true) := Lib.hid (by rw [← HR.out]; exact isSome_of (HP.out.done hp))
      have hnx : ∀ ty, (Instr.next (.pointer (some ⟨w.heap.size, 0, none⟩)) true ty).run Tryz.prog wr = _ := fun ty => Lib.run_next_end_at wr w.heap.size (str s) pos ty hit hp
      go_wp2
      go_ret
      rw [HE.out]
      exact ⟨rfl, hb⟩

set_option maxRecDepth 20000 in
set_option maxHeartbeats 1600000 in
theorem prCount_any (s : List UInt8) (w : World) (hS : Spans w) (hlen : s.length ≤ 10000) :
    Calls Tryz.prog 68 #[.string (str s)] w fun e w' => e = .returned (.int .i64 (countR s : Int)) ∧ Below w.heap.size w w' := by
  have hsz : (str s).size = s.length := rfl
  obtain ⟨R, hR⟩ : ∃ R, countR s = R := ⟨_, rfl⟩
  rw [hR]
  have HR := Lib.hid hR
  clear hR
  go_enter Tryz.func68, Tryz.ntmps68
  go_wp2
  go_loopw [3] (fun v wr => ∃ (pos : Nat) (l : List Nat) (k : Nat), wr.heap[w.heap.size]? = some (.stringIter (str s) pos) ∧ Hid (Past s pos l) ∧ Hid (l.length = k) ∧ k ≤ s.length ∧ v = .int .i64 (k : Int) ∧ Below w.heap.size w wr) (fun _ wr => s.length - wr.iterPos w.heap.size)
  case atStart =>
    exact ⟨0, [], 0, World.iter_heap w (str s) 0, Lib.hid (Past.start s), Lib.hid rfl, Nat.zero_le _, rfl, (Below.refl _ _).alloc (Nat.le_refl _) _⟩
  case round =>
    obtain ⟨pos, l, k, hit, HP, HK, hk, rfl, hb⟩ := hrel
    have hks : w.heap.size < wr.heap.size := (Array.getElem?_eq_some_iff.1 hit).1
    by_cases hp : pos < s.length
    · obtain ⟨c, n, hcn⟩ : ∃ c n, Utf8.decode (str s) pos = (c, n) := ⟨_, _, rfl⟩
      have hnx : ∀ ty, (Instr.next (.pointer (some ⟨w.heap.size, 0, none⟩)) true ty).run Tryz.prog wr = _ := fun ty => Lib.run_next_any_at wr w.heap.size (str s) pos ty hit hp
      have hit2 := Lib.iterAt_heap wr w.heap.size (str s) pos (pos + (Utf8.decode (str s) pos).2) hit
      have hbw2 := Lib.below_iterAt hb (k := w.heap.size) (Nat.le_refl _) (str s) (pos + (Utf8.decode (str s) pos).2)
      have hcm := decode_le (str s) pos
      simp only [hcn] at hnx hit2 hbw2 hcm
      have hcz : (c : Int) ≤ 2147483647 := by omega
      have hcz0 : (0 : Int) ≤ (c : Int) := by omega
      have hS2 : Spans _ := hS.below hbw2
      have HH := Lib.hid (prHas_any (c : Int) _ hS2)
      cases hc : hasR (c : Int) with
      | true =>
        obtain ⟨h1, h0⟩ := HP.out.rune hp hcn hc
        have HN := Lib.hid h1
        have hle := h1.1
        have hll := h1.2.1
        rw [List.length_append, List.length_singleton, HK.out] at hll
        have HK2 : Hid ((l ++ [c]).length = k + 1) := Lib.hid (by rw [List.length_append, List.length_singleton, HK.out])
        rw [hc] at HH
        clear hcn h1 hc
        go_wp2_with fail
        refine HH.out.mono ?_
        rintro e w3 ⟨rfl, k3⟩
        go_wp2
        go_roundw
        case rel => exact ⟨pos + n, l ++ [c], k + 1, (k3.block _ (Array.getElem?_eq_some_iff.1 hit2).1).trans hit2, HN, HK2, by omega, by go_num, below_next hbw2 k3⟩
        case measure =>
          rw [iterPos_at ((k3.block _ (Array.getElem?_eq_some_iff.1 hit2).1).trans hit2), iterPos_at hit]
          omega
      | false =>
        have hn := HP.out.rune_bad hp hcn hc
        have HE : Hid (R = 0) := Lib.hid (by rw [← HR.out]; exact countR_none hn)
        rw [hc] at HH
        clear hcn hc hn
        go_wp2_with fail
        refine HH.out.mono ?_
        rintro e w3 ⟨rfl, k3⟩
        go_wp2
        go_ret
        rw [HE.out]
        exact ⟨rfl, below_next hbw2 k3⟩
    · have HE : Hid (R = k) := Lib.hid (by rw [← HR.out, countR_some (HP.out.done hp), HK.out])
      have hnx : ∀ ty, (Instr.next (.pointer (some ⟨w.heap.size, 0, none⟩)) true ty).run Tryz.prog wr = _ := fun ty => Lib.run_next_end_at wr w.heap.size (str s) pos ty hit hp
      go_wp2
      go_ret
      rw [HE.out]
      exact ⟨rfl, hb⟩

end Go.Proofs.YtbnchnbblchmnaaGreatDoor
