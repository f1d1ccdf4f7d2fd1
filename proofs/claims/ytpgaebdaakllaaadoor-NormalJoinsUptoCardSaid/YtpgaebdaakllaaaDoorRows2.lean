/-
  The program's rows of composed letters, and what the search for a place asks of them.
-/
import Derived.Test.YtpgaebdaakllaaaDoorPlaces
namespace Go.Proofs.YtpgaebdaakllaaaDoor
open Go.RowKit

def zrows : Array Value := ((List.replicate 13 [Value.int .i64 0, .string ⟨#[]⟩, .string ⟨#[]⟩]).flatten).toArray
theorem zero_rows (w : World) : (zeroValue 72).run Tryd.prog w = .ok (.agg zrows) w := by kernel_rfl
theorem zrows_size : zrows.size = 39 := by kernel_rfl
theorem rowCells_size : rowCells.size = 39 := by kernel_rfl
theorem rowCells_one : rowCells.all (·.oneCell') = true := by kernel_rfl
theorem size_rows : (Tryd.prog.info? 72).map (·.size) = some 39 := by kernel_rfl
set_option maxRecDepth 100000 in
set_option maxHeartbeats 3200000 in
theorem prRows_any (w : World) :
    Calls Tryd.prog 62 #[] w fun e w' => e = .returned (.agg rowCells) ∧ Below w.heap.size w w' := by
  have hz := zero_rows
  have hb0 : Box (w.alloc (.cells zrows 72)) w.heap.size 72 zrows := Box.made _ _ _
  go_enter Tryd.func62, Tryd.ntmps62
  go_wp2_with (refine wpList_store_row rfl 72 (.tmp 0) (.tmp 14) rfl w.heap.size rowCells rfl (by kernel_rfl) 72 zrows hb0 (by rw [rowCells_size]; exact size_rows) (by rw [zrows_size, rowCells_size]) rowCells_one ?_)
  exact bodyPost_ret (results_cell_row rfl _ _ w.heap.size 72 rowCells (0, 0) _ rfl (hb0.row rowCells) Tryd.underlying72 rfl (by rw [rowCells_size]; exact size_rows)) rfl ⟨rfl, below_row (below_new (Below.refl _ _) _) (Nat.le_refl _) _⟩

/-- A row as a value. -/
def rowTri (i : Nat) : Array Value := #[.int .i64 ((rowAt i).1 : Int), .string (str (encL (rowAt i).2.1)), .string (str (encL (rowAt i).2.2))]
theorem row_index_0 (w : World) : (Instr.index 72 (.agg rowCells) (.int .i64 ((0 : Nat) : Int))).run Tryd.prog w = .ok (.agg (rowTri 0)) w := by kernel_rfl
theorem row_index_1 (w : World) : (Instr.index 72 (.agg rowCells) (.int .i64 ((1 : Nat) : Int))).run Tryd.prog w = .ok (.agg (rowTri 1)) w := by kernel_rfl
theorem row_index_2 (w : World) : (Instr.index 72 (.agg rowCells) (.int .i64 ((2 : Nat) : Int))).run Tryd.prog w = .ok (.agg (rowTri 2)) w := by kernel_rfl
theorem row_index_3 (w : World) : (Instr.index 72 (.agg rowCells) (.int .i64 ((3 : Nat) : Int))).run Tryd.prog w = .ok (.agg (rowTri 3)) w := by kernel_rfl
theorem row_index_4 (w : World) : (Instr.index 72 (.agg rowCells) (.int .i64 ((4 : Nat) : Int))).run Tryd.prog w = .ok (.agg (rowTri 4)) w := by kernel_rfl
theorem row_index_5 (w : World) : (Instr.index 72 (.agg rowCells) (.int .i64 ((5 : Nat) : Int))).run Tryd.prog w = .ok (.agg (rowTri 5)) w := by kernel_rfl
theorem row_index_6 (w : World) : (Instr.index 72 (.agg rowCells) (.int .i64 ((6 : Nat) : Int))).run Tryd.prog w = .ok (.agg (rowTri 6)) w := by kernel_rfl
theorem row_index_7 (w : World) : (Instr.index 72 (.agg rowCells) (.int .i64 ((7 : Nat) : Int))).run Tryd.prog w = .ok (.agg (rowTri 7)) w := by kernel_rfl
theorem row_index_8 (w : World) : (Instr.index 72 (.agg rowCells) (.int .i64 ((8 : Nat) : Int))).run Tryd.prog w = .ok (.agg (rowTri 8)) w := by kernel_rfl
theorem row_index_9 (w : World) : (Instr.index 72 (.agg rowCells) (.int .i64 ((9 : Nat) : Int))).run Tryd.prog w = .ok (.agg (rowTri 9)) w := by kernel_rfl
theorem row_index_10 (w : World) : (Instr.index 72 (.agg rowCells) (.int .i64 ((10 : Nat) : Int))).run Tryd.prog w = .ok (.agg (rowTri 10)) w := by kernel_rfl
theorem row_index_11 (w : World) : (Instr.index 72 (.agg rowCells) (.int .i64 ((11 : Nat) : Int))).run Tryd.prog w = .ok (.agg (rowTri 11)) w := by kernel_rfl
theorem row_index_12 (w : World) : (Instr.index 72 (.agg rowCells) (.int .i64 ((12 : Nat) : Int))).run Tryd.prog w = .ok (.agg (rowTri 12)) w := by kernel_rfl
theorem row_index (i : Nat) (hi : i < 13) (w : World) : (Instr.index 72 (.agg rowCells) (.int .i64 (i : Int))).run Tryd.prog w = .ok (.agg (rowTri i)) w := by
  have h : i = 0 ∨ i = 1 ∨ i = 2 ∨ i = 3 ∨ i = 4 ∨ i = 5 ∨ i = 6 ∨ i = 7 ∨ i = 8 ∨ i = 9 ∨ i = 10 ∨ i = 11 ∨ i = 12 := by omega
  clear hi
  rcases h with rfl | rfl | rfl | rfl | rfl | rfl | rfl | rfl | rfl | rfl | rfl | rfl | rfl
  · exact row_index_0 w
  · exact row_index_1 w
  · exact row_index_2 w
  · exact row_index_3 w
  · exact row_index_4 w
  · exact row_index_5 w
  · exact row_index_6 w
  · exact row_index_7 w
  · exact row_index_8 w
  · exact row_index_9 w
  · exact row_index_10 w
  · exact row_index_11 w
  · exact row_index_12 w

/-! No byte stands too often. -/
def cntN (x : Nat) : List Nat → Nat
  | [] => 0
  | y :: l => if Nat.beq y x = true then cntN x l + 1 else cntN x l
def fewF : List Nat → List Nat → Nat → Bool
  | _, [], _ => true
  | pre, x :: r, i => (Nat.blt x 128 || Nat.ble 192 x || Nat.ble (cntN x (x :: pre)) ((i + 17) / 8)) && fewF (x :: pre) r (i + 1)
theorem cnt_eq (b : UInt8) : ∀ l : List UInt8, cntN b.toNat (l.map UInt8.toNat) = l.count b
  | [] => rfl
  | c :: l => by
    rw [List.map_cons, cntN, List.count_cons, cnt_eq b l]
    by_cases h : c = b
    · subst h
      rw [if_pos (by rw [Nat.beq_eq])]
      simp
    · rw [if_neg (by rw [Nat.beq_eq]; exact fun e => h (UInt8.toNat_inj.1 e))]
      simp [h]
theorem few_from : ∀ (rest pre : List UInt8), fewF (pre.map UInt8.toNat) (rest.map UInt8.toNat) pre.length = true → ∀ j b, 128 ≤ b.toNat → b.toNat < 192 → rest[j]? = some b → pre.count b + (rest.take (j + 1)).count b ≤ (pre.length + j + 17) / 8
  | [], _, _, j, b, _, _, h => by simp at h
  | c :: rest, pre, hf, j, b, hb1, hb2, h => by
    rw [List.map_cons, fewF, Bool.and_eq_true, Bool.or_eq_true, Bool.or_eq_true, Nat.ble_eq, Nat.ble_eq, Nat.blt_eq] at hf
    obtain ⟨h1, h2⟩ := hf
    cases j with
    | zero =>
      simp at h
      subst h
      have e := cnt_eq c (c :: pre)
      rw [List.map_cons] at e
      rcases h1 with h1 | h1
      · omega
      · rw [e, List.count_cons] at h1
        simp at h1 ⊢
        omega
    | succ j =>
      have ih := few_from rest (c :: pre) (by rw [List.map_cons, List.length_cons]; exact h2) j b hb1 hb2 (by simpa using h)
      rw [List.take_succ_cons, List.count_cons]
      rw [List.count_cons, List.length_cons] at ih
      have e : (pre.length + 1 + j + 17) = (pre.length + (j + 1) + 17) := by omega
      rw [e] at ih
      omega
theorem few_of {s : List UInt8} (h : fewF [] (s.map UInt8.toNat) 0 = true) : Few s := by
  intro i b h1 h2 hb
  have := few_from s [] h i b h1 h2 hb
  simpa using this
def encN : List Nat → List Nat
  | [] => []
  | c :: l => if Nat.blt c 128 = true then c :: encN l else (192 + c / 64) :: (128 + c % 64) :: encN l
theorem encN_eq : ∀ l : List Nat, (∀ c ∈ l, c < 2048) → (encL l).map UInt8.toNat = encN l
  | [], _ => rfl
  | c :: l, h => by
    have hc := h c (List.mem_cons_self ..)
    have ih := encN_eq l fun x hx => h x (List.mem_cons_of_mem _ hx)
    rw [show encL (c :: l) = encC c ++ encL l from rfl, List.map_append, ih, encN]
    by_cases h1 : c < 128
    · rw [if_pos (by rw [Nat.blt_eq]; exact h1), encC_one h1]
      simp
      omega
    · rw [if_neg (by rw [Nat.blt_eq]; exact h1), encC_two (by omega) hc, List.map_cons, List.map_cons, byte_of (by omega), byte_of (by omega)]
      rfl
def smallB (l : List Nat) : Bool := (l.all fun c => Nat.blt c 2048) && fewF [] (encN l) 0
theorem rows_small : (rowL.all fun r => smallB r.2.1 && smallB r.2.2) = true := by kernel_rfl
theorem small_of {l : List Nat} (h : smallB l = true) : (∀ c ∈ l, c < 2048) ∧ Few (encL l) := by
  unfold smallB at h
  rw [Bool.and_eq_true, List.all_eq_true] at h
  have h1 : ∀ c ∈ l, c < 2048 := fun c hc => by have := h.1 c hc; rwa [Nat.blt_eq] at this
  exact ⟨h1, few_of (by rw [encN_eq l h1]; exact h.2)⟩
theorem row_small {i : Nat} (hi : i < 13) : ((∀ c ∈ (rowAt i).2.1, c < 2048) ∧ Few (encL (rowAt i).2.1)) ∧ ((∀ c ∈ (rowAt i).2.2, c < 2048) ∧ Few (encL (rowAt i).2.2)) := by
  have h := List.all_eq_true.1 rows_small (rowAt i) (List.mem_of_getElem? (rowL_get hi))
  rw [Bool.and_eq_true] at h
  exact ⟨small_of h.1, small_of h.2⟩

/-! Searches in a row. -/
theorem zrow_none {mk c : Nat} {ls bs : List Nat} (h : c ∉ ls) : (zrow (mk, ls, bs)).find? (fun x => Nat.beq x.1 c) = none := by
  rw [List.find?_eq_none]
  intro x hx
  unfold zrow at hx
  obtain ⟨p, hp, rfl⟩ := List.mem_map.1 hx
  have hm := (List.of_mem_zip hp).1
  simp only
  rw [Nat.beq_eq]
  intro e
  rw [e] at hm
  exact h hm
theorem zrow_none2 {mk b m : Nat} {ls bs : List Nat} (h : b ∉ bs) : (zrow (mk, ls, bs)).find? (fun x => Nat.beq x.2.1 b && Nat.beq x.2.2 m) = none := by
  rw [List.find?_eq_none]
  intro x hx
  unfold zrow at hx
  obtain ⟨p, hp, rfl⟩ := List.mem_map.1 hx
  have hm := (List.of_mem_zip hp).2
  simp only
  rw [Bool.and_eq_true, Nat.beq_eq]
  rintro ⟨e, _⟩
  rw [e] at hm
  exact h hm
theorem zrow_take {mk k : Nat} {ls bs : List Nat} {x : Nat × Nat × Nat} (hx : x ∈ (zrow (mk, ls, bs)).take k) : ∃ j, j < k ∧ ls[j]? = some x.1 ∧ bs[j]? = some x.2.1 ∧ x.2.2 = mk := by
  obtain ⟨j, hj⟩ := List.getElem?_of_mem hx
  rw [List.getElem?_take] at hj
  split at hj
  · rename_i hjk
    unfold zrow at hj
    rw [List.getElem?_map] at hj
    cases hz : (ls.zip bs)[j]? with
    | none => simp only at hj; rw [hz] at hj; simp at hj
    | some p =>
      simp only at hj
      rw [hz] at hj
      have e := Option.some.inj hj
      obtain ⟨g1, g2⟩ := List.getElem?_zip_eq_some.1 hz
      subst e
      exact ⟨j, hjk, g1, g2, rfl⟩
  · cases hj
theorem zrow_first {mk c k y : Nat} {ls bs : List Nat} (h : FirstAt ls c k) (hy : bs[k]? = some y) : (zrow (mk, ls, bs)).find? (fun x => Nat.beq x.1 c) = some (c, y, mk) := by
  refine (find_take _ (zrow (mk, ls, bs)) k (c, y, mk) (zrow_get h.1 hy) ?_).1 (beq_true c)
  rw [List.find?_eq_none]
  intro x hx
  obtain ⟨j, hj, e1, _, _⟩ := zrow_take hx
  rw [Nat.beq_eq]
  intro e
  exact h.2 j hj (by rw [e1, e])
theorem zrow_first2 {b k y m : Nat} {ls bs : List Nat} (h : FirstAt bs b k) (hy : ls[k]? = some y) : (zrow (m, ls, bs)).find? (fun x => Nat.beq x.2.1 b && Nat.beq x.2.2 m) = some (y, b, m) := by
  refine (find_take _ (zrow (m, ls, bs)) k (y, b, m) (zrow_get hy h.1) ?_).1 (by simp only; rw [beq_true, beq_true]; rfl)
  rw [List.find?_eq_none]
  intro x hx
  obtain ⟨j, hj, _, e1, _⟩ := zrow_take hx
  rw [Bool.and_eq_true, Nat.beq_eq]
  rintro ⟨e, _⟩
  exact h.2 j hj (by rw [e1, e])

end Go.Proofs.YtpgaebdaakllaaaDoor
