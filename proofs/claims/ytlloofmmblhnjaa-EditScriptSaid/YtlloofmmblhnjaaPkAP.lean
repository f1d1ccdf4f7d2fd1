/-
  The program's small functions over operations.
  The reference's Apply.
-/
import Derived.Test.YtlloofmmblhnjaaEdScript
import Derived.Test.YtlloofmmblhnjaaPkAD
namespace Go.Proofs.Ytlloofmmblhnjaa
open Go.RowKit

def insP (o : OpI) : Bool := decide (o.1 = 4)
theorem op_box (w : World) (k c : Int) : Box (w.alloc (.cells #[.int .i64 k, .int .i64 c] 50)) w.heap.size 50 #[.int .i64 k, .int .i64 c] := Box.made w _ _
theorem op_below (w : World) (k c : Int) : Below w.heap.size w (w.alloc (.cells #[.int .i64 k, .int .i64 c] 50)) := (Below.refl _ w).alloc (Nat.le_refl _) _

set_option maxRecDepth 20000 in
theorem wrong_1z (k c : Int) (w : World) (hk : k = 1) (hc : c = 0) : Calls Try.prog 41 #[.agg #[.int .i64 k, .int .i64 c]] w fun e w' => e = .returned (.bool false) ∧ Below w.heap.size w w' := by
  have b0 := (op_box w k c).cell 0
  have b1 := (op_box w k c).cell 1
  simp at b0 b1
  have hb := op_below w k c
  subst hk hc
  go_enter Try.func41, Try.ntmps41
  go_wp2
  go_ret
  exact ⟨rfl, hb⟩

set_option maxRecDepth 20000 in
theorem wrong_1n (k c : Int) (w : World) (hk : k = 1) (hc : c ≠ 0) : Calls Try.prog 41 #[.agg #[.int .i64 k, .int .i64 c]] w fun e w' => e = .returned (.bool true) ∧ Below w.heap.size w w' := by
  have b0 := (op_box w k c).cell 0
  have b1 := (op_box w k c).cell 1
  simp at b0 b1
  have hb := op_below w k c
  subst hk
  have t1 : (c != 0) = true := by simp [hc]
  go_enter Try.func41, Try.ntmps41
  go_wp2
  go_ret
  exact ⟨rfl, hb⟩

set_option maxRecDepth 20000 in
theorem wrong_3z (k c : Int) (w : World) (hk : k = 3) (hc : c = 0) : Calls Try.prog 41 #[.agg #[.int .i64 k, .int .i64 c]] w fun e w' => e = .returned (.bool false) ∧ Below w.heap.size w w' := by
  have b0 := (op_box w k c).cell 0
  have b1 := (op_box w k c).cell 1
  simp at b0 b1
  have hb := op_below w k c
  subst hk hc
  go_enter Try.func41, Try.ntmps41
  go_wp2
  go_ret
  exact ⟨rfl, hb⟩

set_option maxRecDepth 20000 in
theorem wrong_3n (k c : Int) (w : World) (hk : k = 3) (hc : c ≠ 0) : Calls Try.prog 41 #[.agg #[.int .i64 k, .int .i64 c]] w fun e w' => e = .returned (.bool true) ∧ Below w.heap.size w w' := by
  have b0 := (op_box w k c).cell 0
  have b1 := (op_box w k c).cell 1
  simp at b0 b1
  have hb := op_below w k c
  subst hk
  have t1 : (c != 0) = true := by simp [hc]
  go_enter Try.func41, Try.ntmps41
  go_wp2
  go_ret
  exact ⟨rfl, hb⟩

set_option maxRecDepth 20000 in
theorem wrong_2a (k c : Int) (w : World) (hk : k = 2) : Calls Try.prog 41 #[.agg #[.int .i64 k, .int .i64 c]] w fun e w' => e = .returned (.bool false) ∧ Below w.heap.size w w' := by
  have b0 := (op_box w k c).cell 0
  have b1 := (op_box w k c).cell 1
  simp at b0 b1
  have hb := op_below w k c
  subst hk
  go_enter Try.func41, Try.ntmps41
  go_wp2
  go_ret
  exact ⟨rfl, hb⟩

set_option maxRecDepth 20000 in
theorem wrong_4a (k c : Int) (w : World) (hk : k = 4) : Calls Try.prog 41 #[.agg #[.int .i64 k, .int .i64 c]] w fun e w' => e = .returned (.bool false) ∧ Below w.heap.size w w' := by
  have b0 := (op_box w k c).cell 0
  have b1 := (op_box w k c).cell 1
  simp at b0 b1
  have hb := op_below w k c
  subst hk
  go_enter Try.func41, Try.ntmps41
  go_wp2
  go_ret
  exact ⟨rfl, hb⟩

set_option maxRecDepth 20000 in
theorem wrong_o (k c : Int) (w : World) (h1 : k ≠ 1) (h2 : k ≠ 2) (h3 : k ≠ 3) (h4 : k ≠ 4) : Calls Try.prog 41 #[.agg #[.int .i64 k, .int .i64 c]] w fun e w' => e = .returned (.bool true) ∧ Below w.heap.size w w' := by
  have b0 := (op_box w k c).cell 0
  have b1 := (op_box w k c).cell 1
  simp at b0 b1
  have hb := op_below w k c
  have t1 : (k == 1) = false := neE h1
  have t2 : (k == 2) = false := neE h2
  have t3 : (k == 3) = false := neE h3
  have t4 : (k == 4) = false := neE h4
  go_enter Try.func41, Try.ntmps41
  go_wp2
  go_ret
  exact ⟨rfl, hb⟩

theorem wrong_any (o : OpI) (w : World) : Calls Try.prog 41 #[.agg #[.int .i64 o.1, .int .i64 o.2]] w fun e w' => e = .returned (.bool (badOp o)) ∧ Below w.heap.size w w' := by
  obtain ⟨k, c⟩ := o
  have hb : badOp (k, c) = (decide (k < 1) || decide (4 < k) || (decide (c ≠ 0) && (decide (k = 1) || decide (k = 3)))) := rfl
  rw [hb]
  by_cases h1 : k = 1
  · subst h1
    by_cases hc : c = 0
    · rw [show (decide ((1 : Int) < 1) || decide ((4 : Int) < 1) || (decide (c ≠ 0) && (decide ((1 : Int) = 1) || decide ((1 : Int) = 3)))) = false by simp [hc]]
      exact wrong_1z 1 c w rfl hc
    · rw [show (decide ((1 : Int) < 1) || decide ((4 : Int) < 1) || (decide (c ≠ 0) && (decide ((1 : Int) = 1) || decide ((1 : Int) = 3)))) = true by simp [hc]]
      exact wrong_1n 1 c w rfl hc
  by_cases h3 : k = 3
  · subst h3
    by_cases hc : c = 0
    · rw [show (decide ((3 : Int) < 1) || decide ((4 : Int) < 3) || (decide (c ≠ 0) && (decide ((3 : Int) = 1) || decide ((3 : Int) = 3)))) = false by simp [hc]]
      exact wrong_3z 3 c w rfl hc
    · rw [show (decide ((3 : Int) < 1) || decide ((4 : Int) < 3) || (decide (c ≠ 0) && (decide ((3 : Int) = 1) || decide ((3 : Int) = 3)))) = true by simp [hc]]
      exact wrong_3n 3 c w rfl hc
  by_cases h2 : k = 2
  · subst h2
    rw [show (decide ((2 : Int) < 1) || decide ((4 : Int) < 2) || (decide (c ≠ 0) && (decide ((2 : Int) = 1) || decide ((2 : Int) = 3)))) = false by simp]
    exact wrong_2a 2 c w rfl
  by_cases h4 : k = 4
  · subst h4
    rw [show (decide ((4 : Int) < 1) || decide ((4 : Int) < 4) || (decide (c ≠ 0) && (decide ((4 : Int) = 1) || decide ((4 : Int) = 3)))) = false by simp]
    exact wrong_4a 4 c w rfl
  rw [show (decide (k < 1) || decide (4 < k) || (decide (c ≠ 0) && (decide (k = 1) || decide (k = 3)))) = true by
    rw [Bool.or_eq_true, Bool.or_eq_true, decide_eq_true_eq, decide_eq_true_eq]
    omega]
  exact wrong_o k c w h1 h2 h3 h4

set_option maxRecDepth 20000 in
theorem ins_any (o : OpI) (w : World) : Calls Try.prog 39 #[.agg #[.int .i64 o.1, .int .i64 o.2]] w fun e w' => e = .returned (.bool (insP o)) ∧ Below w.heap.size w w' := by
  obtain ⟨k, c⟩ := o
  have b0 := (op_box w k c).cell 0
  simp at b0
  have hb := op_below w k c
  by_cases h : k = 4
  · have t1 : (k == 4) = true := eqE h
    have hi : insP (k, c) = true := decide_eq_true h
    rw [hi]
    clear h hi
    go_enter Try.func39, Try.ntmps39
    go_wp2
    go_ret
    exact ⟨rfl, hb⟩
  · have t1 : (k == 4) = false := neE h
    have hi : insP (k, c) = false := decide_eq_false h
    rw [hi]
    clear h hi
    go_enter Try.func39, Try.ntmps39
    go_wp2
    go_ret
    exact ⟨rfl, hb⟩

/-- What IndexFunc answers. -/
def FoundAt (p : OpI → Bool) (l : List OpI) (z : Int) : Prop := (z = -1 ∧ ∀ o ∈ l, p o = false) ∨ ∃ (k : Nat) (o : OpI), z = (k : Int) ∧ l[k]? = some o ∧ p o = true ∧ ∀ q ∈ l.take k, p q = false

set_option maxRecDepth 20000 in
set_option maxHeartbeats 6400000 in
theorem index_wrong (A : Option Addr) (n c : Nat) (l : List OpI) (w : World) (h : SArr 2 ov w w.heap.size (.slice A n c) l) (hn : n ≤ 1000000) :
    Calls Try.prog 50 #[.slice A n c, .func (.func 41) #[] #[]] w fun e w' => ∃ z : Int, e = .returned (.int .i64 z) ∧ FoundAt badOp l z ∧ Below w.heap.size w w' := by
  have HL := Lib.hid h.len
  have HA := Lib.hid h
  clear h
  go_enter Try.func50, Try.ntmps50
  go_wp2
  go_loopw [8] (fun kv wr => ∃ k : Nat, k ≤ n ∧ kv = .int .i64 (k : Int) ∧ Hid (∀ o ∈ l.take k, badOp o = false) ∧ Below w.heap.size w wr) (fun kv _ => n - (intOf kv).toNat)
  case atStart => exact ⟨0, Nat.zero_le _, rfl, Lib.hid (by simp), Below.refl _ _⟩
  case round =>
    obtain ⟨k, hk, rfl, HT, hb⟩ := hrel
    by_cases hlt : k < n
    · have kz : (k : Int) < (n : Int) := by omega
      have kz0 : (0 : Int) ≤ (k : Int) := by omega
      obtain ⟨o, ho⟩ : ∃ o, l[k]? = some o := ⟨_, List.getElem?_eq_getElem (by have := HL.out; omega)⟩
      obtain ⟨b0, o0, rfl, hB0, hc0⟩ := ops_cells HA.out (by omega)
      have d0 : wr.cell? ⟨b0, o0 + k * 2, none⟩ = some (.int .i64 o.1) := (hb.cell (p := ⟨b0, o0 + k * 2, none⟩) hB0).trans (hc0 k o ho).1
      have d1 : wr.cell? ⟨b0, o0 + k * 2 + 1, none⟩ = some (.int .i64 o.2) := (hb.cell (p := ⟨b0, o0 + k * 2 + 1, none⟩) hB0).trans (hc0 k o ho).2
      have HC := Lib.hid (wrong_any o wr)
      have HO := Lib.hid ho
      cases hP : badOp o with
      | true =>
        rw [hP] at HC
        have HP := Lib.hid hP
        clear hc0 ho hP
        go_wp2_with fail
        refine HC.out.mono ?_
        rintro e w2 ⟨rfl, k2⟩
        go_wp2
        go_ret
        exact ⟨_, rfl, .inr ⟨k, o, rfl, HO.out, HP.out, HT.out⟩, hb.trans (k2.mono hb.size)⟩
      | false =>
        rw [hP] at HC
        have HT2 : Hid (∀ q ∈ l.take (k + 1), badOp q = false) := Lib.hid (by
          rw [take_next ho]
          intro q hq
          rcases List.mem_append.1 hq with hq | hq
          · exact HT.out q hq
          · rw [List.mem_singleton] at hq
            rw [hq, hP])
        obtain ⟨k1, hk1⟩ : ∃ k1, k + 1 = k1 := ⟨_, rfl⟩
        rw [hk1] at HT2
        have ek : (k : Int) + 1 = (k1 : Int) := by omega
        have wk : IntKind.i64.wrap (k1 : Int) = (k1 : Int) := wraps_i64 _ (by omega) (by omega)
        have hk1n : k1 ≤ n := by omega
        have hms : n - k1 < n - k := by omega
        clear hc0 ho hP hk1
        go_wp2_with fail
        refine HC.out.mono ?_
        rintro e w2 ⟨rfl, k2⟩
        go_wp2
        go_roundw
        case rel => exact ⟨k1, hk1n, by go_num, HT2, hb.trans (k2.mono hb.size)⟩
        case measure => first | (simp [intOf]; done) | (simp [intOf]; omega)
    · have t1 : decide ((k : Int) < (n : Int)) = false := decide_eq_false (by omega)
      have HF : Hid (∀ o ∈ l, badOp o = false) := Lib.hid (by
        have := HT.out
        rwa [List.take_of_length_le (by have := HL.out; omega)] at this)
      go_wp2
      go_ret
      exact ⟨_, rfl, .inl ⟨rfl, HF.out⟩, hb⟩

set_option maxRecDepth 20000 in
set_option maxHeartbeats 6400000 in
theorem index_ins (A : Option Addr) (n c : Nat) (l : List OpI) (w : World) (h : SArr 2 ov w w.heap.size (.slice A n c) l) (hn : n ≤ 1000000) :
    Calls Try.prog 50 #[.slice A n c, .func (.func 39) #[] #[]] w fun e w' => ∃ z : Int, e = .returned (.int .i64 z) ∧ FoundAt insP l z ∧ Below w.heap.size w w' := by
  have HL := Lib.hid h.len
  have HA := Lib.hid h
  clear h
  go_enter Try.func50, Try.ntmps50
  go_wp2
  go_loopw [8] (fun kv wr => ∃ k : Nat, k ≤ n ∧ kv = .int .i64 (k : Int) ∧ Hid (∀ o ∈ l.take k, insP o = false) ∧ Below w.heap.size w wr) (fun kv _ => n - (intOf kv).toNat)
  case atStart => exact ⟨0, Nat.zero_le _, rfl, Lib.hid (by simp), Below.refl _ _⟩
  case round =>
    obtain ⟨k, hk, rfl, HT, hb⟩ := hrel
    by_cases hlt : k < n
    · have kz : (k : Int) < (n : Int) := by omega
      have kz0 : (0 : Int) ≤ (k : Int) := by omega
      obtain ⟨o, ho⟩ : ∃ o, l[k]? = some o := ⟨_, List.getElem?_eq_getElem (by have := HL.out; omega)⟩
      obtain ⟨b0, o0, rfl, hB0, hc0⟩ := ops_cells HA.out (by omega)
      have d0 : wr.cell? ⟨b0, o0 + k * 2, none⟩ = some (.int .i64 o.1) := (hb.cell (p := ⟨b0, o0 + k * 2, none⟩) hB0).trans (hc0 k o ho).1
      have d1 : wr.cell? ⟨b0, o0 + k * 2 + 1, none⟩ = some (.int .i64 o.2) := (hb.cell (p := ⟨b0, o0 + k * 2 + 1, none⟩) hB0).trans (hc0 k o ho).2
      have HC := Lib.hid (ins_any o wr)
      have HO := Lib.hid ho
      cases hP : insP o with
      | true =>
        rw [hP] at HC
        have HP := Lib.hid hP
        clear hc0 ho hP
        go_wp2_with fail
        refine HC.out.mono ?_
        rintro e w2 ⟨rfl, k2⟩
        go_wp2
        go_ret
        exact ⟨_, rfl, .inr ⟨k, o, rfl, HO.out, HP.out, HT.out⟩, hb.trans (k2.mono hb.size)⟩
      | false =>
        rw [hP] at HC
        have HT2 : Hid (∀ q ∈ l.take (k + 1), insP q = false) := Lib.hid (by
          rw [take_next ho]
          intro q hq
          rcases List.mem_append.1 hq with hq | hq
          · exact HT.out q hq
          · rw [List.mem_singleton] at hq
            rw [hq, hP])
        obtain ⟨k1, hk1⟩ : ∃ k1, k + 1 = k1 := ⟨_, rfl⟩
        rw [hk1] at HT2
        have ek : (k : Int) + 1 = (k1 : Int) := by omega
        have wk : IntKind.i64.wrap (k1 : Int) = (k1 : Int) := wraps_i64 _ (by omega) (by omega)
        have hk1n : k1 ≤ n := by omega
        have hms : n - k1 < n - k := by omega
        clear hc0 ho hP hk1
        go_wp2_with fail
        refine HC.out.mono ?_
        rintro e w2 ⟨rfl, k2⟩
        go_wp2
        go_roundw
        case rel => exact ⟨k1, hk1n, by go_num, HT2, hb.trans (k2.mono hb.size)⟩
        case measure => first | (simp [intOf]; done) | (simp [intOf]; omega)
    · have t1 : decide ((k : Int) < (n : Int)) = false := decide_eq_false (by omega)
      have HF : Hid (∀ o ∈ l, insP o = false) := Lib.hid (by
        have := HT.out
        rwa [List.take_of_length_le (by have := HL.out; omega)] at this)
      go_wp2
      go_ret
      exact ⟨_, rfl, .inl ⟨rfl, HF.out⟩, hb⟩

set_option maxRecDepth 20000 in
theorem contains_wrong (A : Option Addr) (n c : Nat) (l : List OpI) (w : World) (h : SArr 2 ov w w.heap.size (.slice A n c) l) (hn : n ≤ 1000000) :
    Calls Try.prog 40 #[.slice A n c, .func (.func 41) #[] #[]] w fun e w' => e = .returned (.bool (l.any badOp)) ∧ Below w.heap.size w w' := by
  have HI := Lib.hid (index_wrong A n c l w h hn)
  clear h
  go_enter Try.func40, Try.ntmps40
  go_wp2_with fail
  refine HI.out.mono ?_
  rintro e w1 ⟨z, rfl, hf, k1⟩
  rcases hf with ⟨rfl, hf⟩ | ⟨k, o, rfl, ho, hp, -⟩
  · have HE : Hid (l.any badOp = false) := Lib.hid (by rw [List.any_eq_false]; intro o ho; rw [hf o ho]; simp)
    clear hf
    go_wp2
    go_ret
    exact ⟨ret_bool HE.out.symm, k1⟩
  · have HE : Hid (l.any badOp = true) := Lib.hid (List.any_eq_true.2 ⟨o, List.mem_of_getElem? ho, hp⟩)
    have t1 : (0 : Int) ≤ (k : Int) := by omega
    clear ho hp
    go_wp2
    go_ret
    exact ⟨ret_bool HE.out.symm, k1⟩

set_option maxRecDepth 20000 in
set_option maxHeartbeats 6400000 in
theorem prCost_any (A : Option Addr) (n c : Nat) (l : List OpI) (w : World) (h : SArr 2 ov w w.heap.size (.slice A n c) l) (hn : n ≤ 1000000) :
    Calls Try.prog 31 #[.slice A n c] w fun e w' => e = .returned (.int .i64 (costE l : Int)) ∧ Below w.heap.size w w' := by
  have HL := Lib.hid h.len
  have HA := Lib.hid h
  clear h
  go_enter Try.func31, Try.ntmps31
  go_wp2
  go_loopw [3, 8] (fun s i wr => ∃ k t : Nat, k ≤ n ∧ i = .int .i64 (k : Int) ∧ s = .int .i64 (t : Int) ∧ Hid (costE (l.take k) = t) ∧ t ≤ k ∧ Below w.heap.size w wr) (fun _ i _ => n - (intOf i).toNat)
  case atStart => exact ⟨0, 0, by omega, rfl, rfl, Lib.hid rfl, Nat.le_refl _, Below.refl _ _⟩
  case round =>
    obtain ⟨k, t, hk, rfl, rfl, HT, htk, hb⟩ := hrel
    by_cases hlt : k < n
    · have t1 : decide ((k : Int) < (n : Int)) = true := decide_eq_true (by omega)
      have kz : (k : Int) < (n : Int) := by omega
      obtain ⟨o, ho⟩ : ∃ o, l[k]? = some o := ⟨_, List.getElem?_eq_getElem (by have := HL.out; omega)⟩
      obtain ⟨b0, o0, rfl, hB0, hc0⟩ := ops_cells HA.out (by omega)
      have d0 : wr.cell? ⟨b0, o0 + k * 2, none⟩ = some (.int .i64 o.1) := (hb.cell (p := ⟨b0, o0 + k * 2, none⟩) hB0).trans (hc0 k o ho).1
      have d1 : wr.cell? ⟨b0, o0 + k * 2 + 1, none⟩ = some (.int .i64 o.2) := (hb.cell (p := ⟨b0, o0 + k * 2 + 1, none⟩) hB0).trans (hc0 k o ho).2
      have hcs := cost_snoc ho
      rw [HT.out] at hcs
      obtain ⟨p1, hp1⟩ : ∃ p, o.1 = p := ⟨_, rfl⟩
      obtain ⟨p2, hp2⟩ : ∃ p, o.2 = p := ⟨_, rfl⟩
      rw [hp1] at d0 hcs
      rw [hp2] at d1
      have hb2 : Below w.heap.size w (wr.alloc (.cells #[.int .i64 p1, .int .i64 p2] 50)) := below_new hb _
      have x0 := (op_box wr p1 p2).cell 0
      simp at x0
      clear hc0 ho hp1 hp2
      by_cases h1 : p1 = 1
      · have t2 : (p1 != 1) = false := by simp [h1]
        rw [if_pos h1] at hcs
        have HT2 := Lib.hid hcs
        clear hcs h1
        go_wp2
        go_roundw
        case rel => exact ⟨k + 1, t, by omega, by go_num, rfl, HT2, by omega, hb2⟩
        case measure => first | (simp [intOf]; done) | (simp [intOf]; omega)
      · have t2 : (p1 != 1) = true := by simp [h1]
        rw [if_neg h1] at hcs
        have HT2 := Lib.hid hcs
        clear hcs h1
        go_wp2
        go_roundw
        case rel => exact ⟨k + 1, t + 1, by omega, by go_num, by go_num, HT2, by omega, hb2⟩
        case measure => first | (simp [intOf]; done) | (simp [intOf]; omega)
    · have t1 : decide ((k : Int) < (n : Int)) = false := decide_eq_false (by omega)
      have hfull : l.take k = l := List.take_of_length_le (by have := HL.out; omega)
      have HE : Hid (costE l = t) := Lib.hid (by rw [← HT.out, hfull])
      clear hfull
      go_wp2
      go_ret
      rw [HE.out]
      exact ⟨rfl, hb⟩

end Go.Proofs.Ytlloofmmblhnjaa

namespace Go.Proofs.Ytlloofmmblhnjaa
open Go.RowKit

theorem one_ivE (x : Int) : (iv x).oneCell' = true := rfl
theorem drop_atG {α : Type} {l : List α} {i : Nat} {x : α} (h : l[i]? = some x) : l.drop i = x :: l.drop (i + 1) := by
  obtain ⟨hl, he⟩ := List.getElem?_eq_some_iff.1 h
  rw [List.drop_eq_getElem_cons hl, he]
theorem any_next {l : List OpI} {k : Nat} {o : OpI} (h : (l.take k).any badOp = false) (ho : l[k]? = some o) (hb : badOp o = false) : (l.take (k + 1)).any badOp = false := by
  rw [take_next ho, List.any_append, h]
  simp [hb]
theorem apply_bad {a : List Int} {l : List OpI} {k : Nat} {o : OpI} (ho : l[k]? = some o) (hb : badOp o = true) : applyE a l = ([], 1) := by
  unfold applyE
  rw [if_pos (List.any_eq_true.2 ⟨o, List.mem_of_getElem? ho, hb⟩)]
theorem apply_none {a : List Int} {l : List OpI} (h : l.any badOp = false) (hr : runE a l = none) : applyE a l = ([], 2) := by
  unfold applyE
  rw [if_neg (by rw [h]; decide), hr]
theorem apply_some {a : List Int} {l : List OpI} {b : List Int} (h : l.any badOp = false) (hr : runE a l = some b) : applyE a l = (b, 0) := by
  unfold applyE
  rw [if_neg (by rw [h]; decide), hr]
theorem run_more {R : Option (List Int)} {O : List Int} {c : Int} {r : Option (List Int)} (h : R = (r.map (c :: ·)).map (O ++ ·)) : R = r.map ((O ++ [c]) ++ ·) := by
  rw [h]
  cases r <;> simp

set_option maxRecDepth 20000 in
set_option maxHeartbeats 12800000 in
theorem refApply11_any (A A' : Option Addr) (n c N c' : Nat) (a : List Int) (l : List OpI) (w : World) (h : Arr iv w w.heap.size (.slice A n c) a) (h' : SArr 2 ov w w.heap.size (.slice A' N c') l) (hn : n ≤ 100000000) (hN : N ≤ 100000000) :
    Calls Try.prog 30 #[.slice A n c, .slice A' N c'] w fun e w' => ∃ A n c, e = .returned (.tuple #[.slice A n c, .int .i64 (applyE a l).2]) ∧ Arr iv w' w'.heap.size (.slice A n c) (applyE a l).1 ∧ Below w.heap.size w w' := by
  have HL := Lib.hid h.len
  have HM := Lib.hid h'.len
  have HA := Lib.hid h
  have HB := Lib.hid h'
  clear h h'
  go_enter Try.func30, Try.ntmps30
  go_wp2
  go_loopw [6] (fun i wr => ∃ k : Nat, k ≤ N ∧ i = .int .i64 (k : Int) ∧ Hid ((l.take k).any badOp = false) ∧ Below w.heap.size w wr) (fun i _ => N - (intOf i).toNat)
  case atStart => exact ⟨0, by omega, rfl, Lib.hid rfl, Below.refl _ _⟩
  case round =>
    obtain ⟨k, hk, rfl, HT, hb⟩ := hrel
    by_cases hlt : k < N
    · have t1 : decide ((k : Int) < (N : Int)) = true := decide_eq_true (by omega)
      have kz : (k : Int) < (N : Int) := by omega
      obtain ⟨⟨κ, ch⟩, ho⟩ : ∃ o, l[k]? = some o := ⟨_, List.getElem?_eq_getElem (by have := HM.out; omega)⟩
      obtain ⟨b0, o0, rfl, hB0, hc0⟩ := ops_cells HB.out (by omega)
      have d0 : wr.cell? ⟨b0, o0 + k * 2, none⟩ = some (.int .i64 κ) := (hb.cell (p := ⟨b0, o0 + k * 2, none⟩) hB0).trans (hc0 k _ ho).1
      have d1 : wr.cell? ⟨b0, o0 + k * 2 + 1, none⟩ = some (.int .i64 ch) := (hb.cell (p := ⟨b0, o0 + k * 2 + 1, none⟩) hB0).trans (hc0 k _ ho).2
      by_cases q1 : κ < 1
      · have p1 : decide (κ < 1) = true := decide_eq_true q1
        have HE : Hid (applyE a l = ([], 1)) := Lib.hid (apply_bad ho (by simp [badOp]; omega))
        clear ho hc0 q1
        go_wp2_with fail
        go_ret2
        rw [HE.out]
        exact ⟨none, 0, 0, rfl, .inl ⟨rfl, rfl⟩, hb⟩
      have p1 : decide (κ < 1) = false := decide_eq_false q1
      by_cases q2 : 4 < κ
      · have p2 : decide (4 < κ) = true := decide_eq_true q2
        have HE : Hid (applyE a l = ([], 1)) := Lib.hid (apply_bad ho (by simp [badOp]; omega))
        clear ho hc0 q1 q2
        go_wp2_with fail
        go_ret2
        rw [HE.out]
        exact ⟨none, 0, 0, rfl, .inl ⟨rfl, rfl⟩, hb⟩
      have p2 : decide (4 < κ) = false := decide_eq_false q2
      by_cases q3 : ch = 0
      · have p3 : (ch != 0) = false := by simp [q3]
        have HT2 := Lib.hid (any_next HT.out ho (by simp [badOp, q3]; omega))
        clear ho hc0 q1 q2 q3
        go_wp2_with fail
        go_roundw
        case rel => exact ⟨k + 1, by omega, by go_num, HT2, hb⟩
        case measure => first | (simp [intOf]; done) | (simp [intOf]; omega)
      have p3 : (ch != 0) = true := by simp [q3]
      by_cases q4 : κ = 1
      · have p4 : (κ == 1) = true := eqE q4
        have HE : Hid (applyE a l = ([], 1)) := Lib.hid (apply_bad ho (by simp [badOp, q4, q3]))
        clear ho hc0 q1 q2 q3 q4
        go_wp2_with fail
        go_ret2
        rw [HE.out]
        exact ⟨none, 0, 0, rfl, .inl ⟨rfl, rfl⟩, hb⟩
      have p4 : (κ == 1) = false := neE q4
      by_cases q5 : κ = 3
      · have p5 : (κ == 3) = true := eqE q5
        have HE : Hid (applyE a l = ([], 1)) := Lib.hid (apply_bad ho (by simp [badOp, q5, q3]))
        clear ho hc0 q1 q2 q3 q4 q5
        go_wp2_with fail
        go_ret2
        rw [HE.out]
        exact ⟨none, 0, 0, rfl, .inl ⟨rfl, rfl⟩, hb⟩
      have p5 : (κ == 3) = false := neE q5
      have HT2 := Lib.hid (any_next HT.out ho (by simp [badOp, q4, q5]; omega))
      clear ho hc0 q1 q2 q3 q4 q5
      go_wp2_with fail
      go_roundw
      case rel => exact ⟨k + 1, by omega, by go_num, HT2, hb⟩
      case measure => first | (simp [intOf]; done) | (simp [intOf]; omega)
    · have t1 : decide ((k : Int) < (N : Int)) = false := decide_eq_false (by omega)
      have HG : Hid (l.any badOp = false) := Lib.hid (by
        have e := HT.out
        rwa [List.take_of_length_le (by have := HM.out; omega)] at e)
      obtain ⟨wo, rfl⟩ : ∃ wo : World, wo = wr := ⟨_, rfl⟩
      have hbo := hb
      go_wp2
      go_loopw [7, 8, 9] (fun v s i wr => ∃ (k t : Nat) (O : List Int), k ≤ N ∧ t ≤ n ∧ O.length ≤ k ∧ i = .int .i64 (k : Int) ∧ s = .int .i64 (t : Int) ∧ Hid (runE a l = (runE (a.drop t) (l.drop k)).map (O ++ ·)) ∧ wr.ownsRow w.heap.size 3 1 v O.length (O.map iv) ∧ Below w.heap.size w wr) (fun _ _ i _ => N - (intOf i).toNat)
      case atStart => exact ⟨0, 0, [], by omega, by omega, by simp, rfl, rfl, Lib.hid (by simp), World.ownsRow_nil _ _ _ _, hbo⟩
      case round =>
        clear hb hlt t1 HT hk
        obtain ⟨k, t, O, hk, ht, hOk, rfl, rfl, HO, hown, hb⟩ := hrel
        have hbs := hb.size
        by_cases hlt : k < N
        · have t1 : decide ((k : Int) < (N : Int)) = true := decide_eq_true (by omega)
          have kz : (k : Int) < (N : Int) := by omega
          obtain ⟨⟨κ, ch⟩, ho⟩ : ∃ o, l[k]? = some o := ⟨_, List.getElem?_eq_getElem (by have := HM.out; omega)⟩
          have hgood : badOp (κ, ch) = false := by
            have e := HG.out
            rw [List.any_eq_false] at e
            simpa using e _ (List.mem_of_getElem? ho)
          obtain ⟨b1, o1, rfl, hB1, hc1⟩ := ops_cells HB.out (by omega)
          have d0 : wr.cell? ⟨b1, o1 + k * 2, none⟩ = some (.int .i64 κ) := (hb.cell (p := ⟨b1, o1 + k * 2, none⟩) hB1).trans (hc1 k _ ho).1
          have d1 : wr.cell? ⟨b1, o1 + k * 2 + 1, none⟩ = some (.int .i64 ch) := (hb.cell (p := ⟨b1, o1 + k * 2 + 1, none⟩) hB1).trans (hc1 k _ ho).2
          rcases (bad_not hgood).1 with e | e | e | e
          all_goals (replace e : κ = _ := e; subst e; clear hgood)
          · by_cases htn : t < n
            · have t2 : ((t : Int) == (n : Int)) = false := neE (by omega)
              have tz : (t : Int) < (n : Int) := by omega
              obtain ⟨t1_, ht1_⟩ : ∃ q, t + 1 = q := ⟨_, rfl⟩
              have et1 : (t : Int) + 1 = (t1_ : Int) := by omega
              have wt1 : IntKind.i64.wrap (t1_ : Int) = (t1_ : Int) := wraps_i64 _ (by omega) (by omega)
              have et2 : (t1_ : Int) - 1 = (t : Int) := by omega
              have wt2 : IntKind.i64.wrap (t : Int) = (t : Int) := wraps_i64 _ (by omega) (by omega)
              obtain ⟨x, hx⟩ : ∃ o, a[t]? = some o := ⟨_, List.getElem?_eq_getElem (by have := HL.out; omega)⟩
              obtain ⟨b0, o0, rfl, hB0, hc0⟩ := HA.out.some_ (by omega)
              have d2 : wr.cell? ⟨b0, o0 + t, none⟩ = some (.int .i64 x) := (hb.cell (p := ⟨b0, o0 + t, none⟩) hB0).trans (hc0 t x hx)
              have HO2 := Lib.hid (run_more (R := runE a l) (O := O) (c := x) (r := runE (a.drop (t + 1)) (l.drop (k + 1))) (by rw [HO.out, drop_atG ho, drop_at hx, run_take _ _ _ (by simp), if_pos rfl]))
              rw [ht1_] at HO2
              clear ho hx hc0 hc1 ht1_
              go_wp2_with (at_builtin; refine append_one (val := iv) 22 3 (.int .i64 0) 8 Try.underlying22 info_int rfl (by decide) one_ivE wr rfl (.tmp 79) (.tmp 85) rfl w.heap.size u7 O rfl hown x _ rfl rfl (by omega) hbs ?_; intro v2 w2 hown2 hb2)
              go_wp2_with fail
              go_roundw
              case rel => exact ⟨k + 1, t1_, O ++ [x], by omega, by omega, by first | omega | (rw [List.length_append, List.length_singleton]; omega), by go_num, by go_num, HO2, hown2, hb.trans hb2⟩
              case measure => first | (simp [intOf]; done) | (simp [intOf]; omega)
            · have t2 : ((t : Int) == (n : Int)) = true := eqE (by omega)
              have HE : Hid (applyE a l = ([], 2)) := Lib.hid (apply_none HG.out (by rw [HO.out, drop_atG ho, List.drop_eq_nil_of_le (by have := HL.out; omega), run_none _ (by simp)]; rfl))
              clear ho hc1 hown
              go_wp2_with fail
              go_ret2
              rw [HE.out]
              exact ⟨none, 0, 0, rfl, .inl ⟨rfl, rfl⟩, hb⟩
          · by_cases htn : t < n
            · have t2 : ((t : Int) == (n : Int)) = false := neE (by omega)
              have tz : (t : Int) < (n : Int) := by omega
              obtain ⟨t1_, ht1_⟩ : ∃ q, t + 1 = q := ⟨_, rfl⟩
              have et1 : (t : Int) + 1 = (t1_ : Int) := by omega
              have wt1 : IntKind.i64.wrap (t1_ : Int) = (t1_ : Int) := wraps_i64 _ (by omega) (by omega)
              have et2 : (t1_ : Int) - 1 = (t : Int) := by omega
              have wt2 : IntKind.i64.wrap (t : Int) = (t : Int) := wraps_i64 _ (by omega) (by omega)
              obtain ⟨x, hx⟩ : ∃ o, a[t]? = some o := ⟨_, List.getElem?_eq_getElem (by have := HL.out; omega)⟩
              obtain ⟨b0, o0, rfl, hB0, hc0⟩ := HA.out.some_ (by omega)
              have d2 : wr.cell? ⟨b0, o0 + t, none⟩ = some (.int .i64 x) := (hb.cell (p := ⟨b0, o0 + t, none⟩) hB0).trans (hc0 t x hx)
              have HO2 := Lib.hid (run_more (R := runE a l) (O := O) (c := ch) (r := runE (a.drop (t + 1)) (l.drop (k + 1))) (by rw [HO.out, drop_atG ho, drop_at hx, run_take _ _ _ (by simp), if_neg (by simp), if_pos rfl]))
              rw [ht1_] at HO2
              clear ho hx hc0 hc1 ht1_
              go_wp2_with (at_builtin; refine append_one (val := iv) 22 3 (.int .i64 0) 8 Try.underlying22 info_int rfl (by decide) one_ivE wr rfl (.tmp 90) (.tmp 96) rfl w.heap.size u7 O rfl hown ch _ rfl rfl (by omega) hbs ?_; intro v2 w2 hown2 hb2)
              go_wp2_with fail
              go_roundw
              case rel => exact ⟨k + 1, t1_, O ++ [ch], by omega, by omega, by first | omega | (rw [List.length_append, List.length_singleton]; omega), by go_num, by go_num, HO2, hown2, hb.trans hb2⟩
              case measure => first | (simp [intOf]; done) | (simp [intOf]; omega)
            · have t2 : ((t : Int) == (n : Int)) = true := eqE (by omega)
              have HE : Hid (applyE a l = ([], 2)) := Lib.hid (apply_none HG.out (by rw [HO.out, drop_atG ho, List.drop_eq_nil_of_le (by have := HL.out; omega), run_none _ (by simp)]; rfl))
              clear ho hc1 hown
              go_wp2_with fail
              go_ret2
              rw [HE.out]
              exact ⟨none, 0, 0, rfl, .inl ⟨rfl, rfl⟩, hb⟩
          · by_cases htn : t < n
            · have t2 : ((t : Int) == (n : Int)) = false := neE (by omega)
              have tz : (t : Int) < (n : Int) := by omega
              obtain ⟨t1_, ht1_⟩ : ∃ q, t + 1 = q := ⟨_, rfl⟩
              have et1 : (t : Int) + 1 = (t1_ : Int) := by omega
              have wt1 : IntKind.i64.wrap (t1_ : Int) = (t1_ : Int) := wraps_i64 _ (by omega) (by omega)
              have et2 : (t1_ : Int) - 1 = (t : Int) := by omega
              have wt2 : IntKind.i64.wrap (t : Int) = (t : Int) := wraps_i64 _ (by omega) (by omega)
              obtain ⟨x, hx⟩ : ∃ o, a[t]? = some o := ⟨_, List.getElem?_eq_getElem (by have := HL.out; omega)⟩
              obtain ⟨b0, o0, rfl, hB0, hc0⟩ := HA.out.some_ (by omega)
              have d2 : wr.cell? ⟨b0, o0 + t, none⟩ = some (.int .i64 x) := (hb.cell (p := ⟨b0, o0 + t, none⟩) hB0).trans (hc0 t x hx)
              have HO2 := Lib.hid ((show runE a l = (runE (a.drop (t + 1)) (l.drop (k + 1))).map (O ++ ·) by rw [HO.out, drop_atG ho, drop_at hx, run_take _ _ _ (by simp), if_neg (by simp), if_neg (by simp)]))
              rw [ht1_] at HO2
              clear ho hx hc0 hc1 ht1_
              go_wp2_with fail
              go_roundw
              case rel => exact ⟨k + 1, t1_, O, by omega, by omega, by first | omega | (rw [List.length_append, List.length_singleton]; omega), by go_num, by go_num, HO2, hown, hb⟩
              case measure => first | (simp [intOf]; done) | (simp [intOf]; omega)
            · have t2 : ((t : Int) == (n : Int)) = true := eqE (by omega)
              have HE : Hid (applyE a l = ([], 2)) := Lib.hid (apply_none HG.out (by rw [HO.out, drop_atG ho, List.drop_eq_nil_of_le (by have := HL.out; omega), run_none _ (by simp)]; rfl))
              clear ho hc1 hown
              go_wp2_with fail
              go_ret2
              rw [HE.out]
              exact ⟨none, 0, 0, rfl, .inl ⟨rfl, rfl⟩, hb⟩
          · have HO2 := Lib.hid (run_more (R := runE a l) (O := O) (c := ch) (r := runE (a.drop t) (l.drop (k + 1))) (by rw [HO.out, drop_atG ho, run_ins _ _ (by simp)]))
            clear ho hc1
            go_wp2_with (at_builtin; refine append_one (val := iv) 22 3 (.int .i64 0) 8 Try.underlying22 info_int rfl (by decide) one_ivE wr rfl (.tmp 90) (.tmp 96) rfl w.heap.size u7 O rfl hown ch _ rfl rfl (by omega) hbs ?_; intro v2 w2 hown2 hb2)
            go_wp2_with fail
            go_roundw
            case rel => exact ⟨k + 1, t, O ++ [ch], by omega, by omega, by first | omega | (rw [List.length_append, List.length_singleton]; omega), by go_num, by go_num, HO2, hown2, hb.trans hb2⟩
            case measure => first | (simp [intOf]; done) | (simp [intOf]; omega)
        · have t1 : decide ((k : Int) < (N : Int)) = false := decide_eq_false (by omega)
          have hd : l.drop k = [] := List.drop_eq_nil_of_le (by have := HM.out; omega)
          by_cases htn : t < n
          · have t2 : decide ((t : Int) < (n : Int)) = true := decide_eq_true (by omega)
            obtain ⟨x, hx⟩ : ∃ o, a[t]? = some o := ⟨_, List.getElem?_eq_getElem (by have := HL.out; omega)⟩
            have HE : Hid (applyE a l = ([], 2)) := Lib.hid (apply_none HG.out (by rw [HO.out, hd, drop_at hx]; rfl))
            clear hd hx hown
            go_wp2_with fail
            go_ret2
            rw [HE.out]
            exact ⟨none, 0, 0, rfl, .inl ⟨rfl, rfl⟩, hb⟩
          · have t2 : decide ((t : Int) < (n : Int)) = false := decide_eq_false (by omega)
            have HE : Hid (applyE a l = (O, 0)) := Lib.hid (apply_some HG.out (by rw [HO.out, hd, List.drop_eq_nil_of_le (by have := HL.out; omega)]; simp [runE]))
            have hA := Arr.of_own hown
            obtain ⟨A4, c4, rfl⟩ := hA.form
            have HA4 := Lib.hid hA
            clear hd hA hown
            go_wp2_with fail
            go_ret2
            rw [HE.out]
            exact ⟨_, _, _, rfl, HA4.out, hb⟩

end Go.Proofs.Ytlloofmmblhnjaa
