/-
  The program's rows of composed letters, and what the search for a place asks of them.
  The program's divide.
  The program's join.
  The program's isMark and appendParts.
-/
import Derived.Test.YtafnjbmeponobaaGreatDoorPkAP
import Derived.BigQuiet
import Derived.Deep.RegionWith
namespace Go.Proofs.YtafnjbmeponobaaGreatDoor
open Go.RowKit

def zrows : Array Value := ((List.replicate 13 [Value.int .i64 0, .string ⟨#[]⟩, .string ⟨#[]⟩]).flatten).toArray
theorem zero_rows (w : World) : (zeroValue 142).run Tryz.prog w = .ok (.agg zrows) w := by kernel_rfl
theorem zrows_size : zrows.size = 39 := by kernel_rfl
theorem rowCells_size : rowCells.size = 39 := by kernel_rfl
theorem rowCells_one : rowCells.all (·.oneCell') = true := by kernel_rfl
theorem size_rows : (Tryz.prog.info? 142).map (·.size) = some 39 := by kernel_rfl
set_option maxRecDepth 100000 in
set_option maxHeartbeats 3200000 in
theorem prRows_any (w : World) :
    Calls Tryz.prog 124 #[] w fun e w' => e = .returned (.agg rowCells) ∧ Below w.heap.size w w' := by
  have hz := zero_rows
  have hb0 : Box (w.alloc (.cells zrows 142)) w.heap.size 142 zrows := Box.made _ _ _
  go_enter Tryz.func124, Tryz.ntmps124
  go_wp2_with (refine wpList_store_row rfl 142 (.tmp 0) (.tmp 14) rfl w.heap.size rowCells rfl (by kernel_rfl) 142 zrows hb0 (by rw [rowCells_size]; exact size_rows) (by rw [zrows_size, rowCells_size]) rowCells_one ?_)
  exact bodyPost_ret (results_cell_row rfl _ _ w.heap.size 142 rowCells (0, 0) _ rfl (hb0.row rowCells) Tryz.underlying142 rfl (by rw [rowCells_size]; exact size_rows)) rfl ⟨rfl, below_row (below_new (Below.refl _ _) _) (Nat.le_refl _) _⟩

/-- A row as a value. -/
def rowTri (i : Nat) : Array Value := #[.int .i64 ((rowAt i).1 : Int), .string (str (encL (rowAt i).2.1)), .string (str (encL (rowAt i).2.2))]
theorem row_index_0 (w : World) : (Instr.index 142 (.agg rowCells) (.int .i64 ((0 : Nat) : Int))).run Tryz.prog w = .ok (.agg (rowTri 0)) w := by kernel_rfl
theorem row_index_1 (w : World) : (Instr.index 142 (.agg rowCells) (.int .i64 ((1 : Nat) : Int))).run Tryz.prog w = .ok (.agg (rowTri 1)) w := by kernel_rfl
theorem row_index_2 (w : World) : (Instr.index 142 (.agg rowCells) (.int .i64 ((2 : Nat) : Int))).run Tryz.prog w = .ok (.agg (rowTri 2)) w := by kernel_rfl
theorem row_index_3 (w : World) : (Instr.index 142 (.agg rowCells) (.int .i64 ((3 : Nat) : Int))).run Tryz.prog w = .ok (.agg (rowTri 3)) w := by kernel_rfl
theorem row_index_4 (w : World) : (Instr.index 142 (.agg rowCells) (.int .i64 ((4 : Nat) : Int))).run Tryz.prog w = .ok (.agg (rowTri 4)) w := by kernel_rfl
theorem row_index_5 (w : World) : (Instr.index 142 (.agg rowCells) (.int .i64 ((5 : Nat) : Int))).run Tryz.prog w = .ok (.agg (rowTri 5)) w := by kernel_rfl
theorem row_index_6 (w : World) : (Instr.index 142 (.agg rowCells) (.int .i64 ((6 : Nat) : Int))).run Tryz.prog w = .ok (.agg (rowTri 6)) w := by kernel_rfl
theorem row_index_7 (w : World) : (Instr.index 142 (.agg rowCells) (.int .i64 ((7 : Nat) : Int))).run Tryz.prog w = .ok (.agg (rowTri 7)) w := by kernel_rfl
theorem row_index_8 (w : World) : (Instr.index 142 (.agg rowCells) (.int .i64 ((8 : Nat) : Int))).run Tryz.prog w = .ok (.agg (rowTri 8)) w := by kernel_rfl
theorem row_index_9 (w : World) : (Instr.index 142 (.agg rowCells) (.int .i64 ((9 : Nat) : Int))).run Tryz.prog w = .ok (.agg (rowTri 9)) w := by kernel_rfl
theorem row_index_10 (w : World) : (Instr.index 142 (.agg rowCells) (.int .i64 ((10 : Nat) : Int))).run Tryz.prog w = .ok (.agg (rowTri 10)) w := by kernel_rfl
theorem row_index_11 (w : World) : (Instr.index 142 (.agg rowCells) (.int .i64 ((11 : Nat) : Int))).run Tryz.prog w = .ok (.agg (rowTri 11)) w := by kernel_rfl
theorem row_index_12 (w : World) : (Instr.index 142 (.agg rowCells) (.int .i64 ((12 : Nat) : Int))).run Tryz.prog w = .ok (.agg (rowTri 12)) w := by kernel_rfl
theorem row_index (i : Nat) (hi : i < 13) (w : World) : (Instr.index 142 (.agg rowCells) (.int .i64 (i : Int))).run Tryz.prog w = .ok (.agg (rowTri i)) w := by
  have h : i = 0 ∨ i = 1 ∨ i = 2 ∨ i = 3 ∨ i = 4 ∨ i = 5 ∨ i = 6 ∨ i = 7 ∨ i = 8 ∨ i = 9 ∨ i = 10 ∨ i = 11 ∨ i = 12 := by omega
  clear hi
  rcases h with rfl | rfl | rfl | rfl | rfl | rfl | rfl | rfl | rfl | rfl | rfl | rfl | rfl
  · exact row_index_0 w
  · exact row_index_1 w
  · exact row_index_2 w
  · exact row_index_3 w
  · exact row_index_4 w
  · exact row_index_5 w
  · exact row_index_6 w
  · exact row_index_7 w
  · exact row_index_8 w
  · exact row_index_9 w
  · exact row_index_10 w
  · exact row_index_11 w
  · exact row_index_12 w

/-! No byte stands too often. -/
def cntN (x : Nat) : List Nat → Nat
  | [] => 0
  | y :: l => if Nat.beq y x = true then cntN x l + 1 else cntN x l
def fewF : List Nat → List Nat → Nat → Bool
  | _, [], _ => true
  | pre, x :: r, i => (Nat.blt x 128 || Nat.ble 192 x || Nat.ble (cntN x (x :: pre)) ((i + 17) / 8)) && fewF (x :: pre) r (i + 1)
theorem cnt_eq (b : UInt8) : ∀ l : List UInt8, cntN b.toNat (l.map UInt8.toNat) = l.count b
  | [] => rfl
  | c :: l => by
    rw [List.map_cons, cntN, List.count_cons, cnt_eq b l]
    by_cases h : c = b
    · subst h
      rw [if_pos (by rw [Nat.beq_eq])]
      simp
    · rw [if_neg (by rw [Nat.beq_eq]; exact fun e => h (UInt8.toNat_inj.1 e))]
      simp [h]
theorem few_from : ∀ (rest pre : List UInt8), fewF (pre.map UInt8.toNat) (rest.map UInt8.toNat) pre.length = true → ∀ j b, 128 ≤ b.toNat → b.toNat < 192 → rest[j]? = some b → pre.count b + (rest.take (j + 1)).count b ≤ (pre.length + j + 17) / 8
  | [], _, _, j, b, _, _, h => by simp at h
  | c :: rest, pre, hf, j, b, hb1, hb2, h => by
    rw [List.map_cons, fewF, Bool.and_eq_true, Bool.or_eq_true, Bool.or_eq_true, Nat.ble_eq, Nat.ble_eq, Nat.blt_eq] at hf
    obtain ⟨h1, h2⟩ := hf
    cases j with
    | zero =>
      simp at h
      subst h
      have e := cnt_eq c (c :: pre)
      rw [List.map_cons] at e
      rcases h1 with h1 | h1
      · omega
      · rw [e, List.count_cons] at h1
        simp at h1 ⊢
        omega
    | succ j =>
      have ih := few_from rest (c :: pre) (by rw [List.map_cons, List.length_cons]; exact h2) j b hb1 hb2 (by simpa using h)
      rw [List.take_succ_cons, List.count_cons]
      rw [List.count_cons, List.length_cons] at ih
      have e : (pre.length + 1 + j + 17) = (pre.length + (j + 1) + 17) := by omega
      rw [e] at ih
      omega
theorem few_of {s : List UInt8} (h : fewF [] (s.map UInt8.toNat) 0 = true) : Few s := by
  intro i b h1 h2 hb
  have := few_from s [] h i b h1 h2 hb
  simpa using this
def encN : List Nat → List Nat
  | [] => []
  | c :: l => if Nat.blt c 128 = true then c :: encN l else (192 + c / 64) :: (128 + c % 64) :: encN l
theorem encN_eq : ∀ l : List Nat, (∀ c ∈ l, c < 2048) → (encL l).map UInt8.toNat = encN l
  | [], _ => rfl
  | c :: l, h => by
    have hc := h c (List.mem_cons_self ..)
    have ih := encN_eq l fun x hx => h x (List.mem_cons_of_mem _ hx)
    rw [show encL (c :: l) = encC c ++ encL l from rfl, List.map_append, ih, encN]
    by_cases h1 : c < 128
    · rw [if_pos (by rw [Nat.blt_eq]; exact h1), encC_one h1]
      simp
      omega
    · rw [if_neg (by rw [Nat.blt_eq]; exact h1), encC_two (by omega) hc, List.map_cons, List.map_cons, byte_of (by omega), byte_of (by omega)]
      rfl
def smallB (l : List Nat) : Bool := (l.all fun c => Nat.blt c 2048) && fewF [] (encN l) 0
theorem rows_small : (rowL.all fun r => smallB r.2.1 && smallB r.2.2) = true := by kernel_rfl
theorem small_of {l : List Nat} (h : smallB l = true) : (∀ c ∈ l, c < 2048) ∧ Few (encL l) := by
  unfold smallB at h
  rw [Bool.and_eq_true, List.all_eq_true] at h
  have h1 : ∀ c ∈ l, c < 2048 := fun c hc => by have := h.1 c hc; rwa [Nat.blt_eq] at this
  exact ⟨h1, few_of (by rw [encN_eq l h1]; exact h.2)⟩
theorem row_small {i : Nat} (hi : i < 13) : ((∀ c ∈ (rowAt i).2.1, c < 2048) ∧ Few (encL (rowAt i).2.1)) ∧ ((∀ c ∈ (rowAt i).2.2, c < 2048) ∧ Few (encL (rowAt i).2.2)) := by
  have h := List.all_eq_true.1 rows_small (rowAt i) (List.mem_of_getElem? (rowL_get hi))
  rw [Bool.and_eq_true] at h
  exact ⟨small_of h.1, small_of h.2⟩

/-! Searches in a row. -/
theorem zrow_none {mk c : Nat} {ls bs : List Nat} (h : c ∉ ls) : (zrow (mk, ls, bs)).find? (fun x => Nat.beq x.1 c) = none := by
  rw [List.find?_eq_none]
  intro x hx
  unfold zrow at hx
  obtain ⟨p, hp, rfl⟩ := List.mem_map.1 hx
  have hm := (List.of_mem_zip hp).1
  simp only
  rw [Nat.beq_eq]
  intro e
  rw [e] at hm
  exact h hm
theorem zrow_none2 {mk b m : Nat} {ls bs : List Nat} (h : b ∉ bs) : (zrow (mk, ls, bs)).find? (fun x => Nat.beq x.2.1 b && Nat.beq x.2.2 m) = none := by
  rw [List.find?_eq_none]
  intro x hx
  unfold zrow at hx
  obtain ⟨p, hp, rfl⟩ := List.mem_map.1 hx
  have hm := (List.of_mem_zip hp).2
  simp only
  rw [Bool.and_eq_true, Nat.beq_eq]
  rintro ⟨e, _⟩
  rw [e] at hm
  exact h hm
theorem zrow_take {mk k : Nat} {ls bs : List Nat} {x : Nat × Nat × Nat} (hx : x ∈ (zrow (mk, ls, bs)).take k) : ∃ j, j < k ∧ ls[j]? = some x.1 ∧ bs[j]? = some x.2.1 ∧ x.2.2 = mk := by
  obtain ⟨j, hj⟩ := List.getElem?_of_mem hx
  rw [List.getElem?_take] at hj
  split at hj
  · rename_i hjk
    unfold zrow at hj
    rw [List.getElem?_map] at hj
    cases hz : (ls.zip bs)[j]? with
    | none => simp only at hj; rw [hz] at hj; simp at hj
    | some p =>
      simp only at hj
      rw [hz] at hj
      have e := Option.some.inj hj
      obtain ⟨g1, g2⟩ := List.getElem?_zip_eq_some.1 hz
      subst e
      exact ⟨j, hjk, g1, g2, rfl⟩
  · cases hj
theorem zrow_first {mk c k y : Nat} {ls bs : List Nat} (h : FirstAt ls c k) (hy : bs[k]? = some y) : (zrow (mk, ls, bs)).find? (fun x => Nat.beq x.1 c) = some (c, y, mk) := by
  refine (find_take _ (zrow (mk, ls, bs)) k (c, y, mk) (zrow_get h.1 hy) ?_).1 (beq_true c)
  rw [List.find?_eq_none]
  intro x hx
  obtain ⟨j, hj, e1, _, _⟩ := zrow_take hx
  rw [Nat.beq_eq]
  intro e
  exact h.2 j hj (by rw [e1, e])
theorem zrow_first2 {b k y m : Nat} {ls bs : List Nat} (h : FirstAt bs b k) (hy : ls[k]? = some y) : (zrow (m, ls, bs)).find? (fun x => Nat.beq x.2.1 b && Nat.beq x.2.2 m) = some (y, b, m) := by
  refine (find_take _ (zrow (m, ls, bs)) k (y, b, m) (zrow_get hy h.1) ?_).1 (by simp only; rw [beq_true, beq_true]; rfl)
  rw [List.find?_eq_none]
  intro x hx
  obtain ⟨j, hj, _, e1, _⟩ := zrow_take hx
  rw [Bool.and_eq_true, Nat.beq_eq]
  rintro ⟨e, _⟩
  exact h.2 j hj (by rw [e1, e])

end Go.Proofs.YtafnjbmeponobaaGreatDoor

namespace Go.Proofs.YtafnjbmeponobaaGreatDoor
open Go.RowKit

set_option maxRecDepth 100000 in
set_option maxHeartbeats 6400000 in
theorem prDivide_any (c : Nat) (w : World) (hc : c < 2048) :
    Calls Tryz.prog 114 #[.int .i64 (c : Int)] w fun e w' => e = .returned (.tuple #[.int .i64 ((pairR c).1 : Int), .int .i64 ((pairR c).2 : Int), .bool (pairL.any fun x => Nat.beq x.1 c)]) ∧ Below w.heap.size w w' := by
  obtain ⟨R, hR⟩ : ∃ R, pairR c = R := ⟨_, rfl⟩
  obtain ⟨B, hB⟩ : ∃ B, (pairL.any fun x => Nat.beq x.1 c) = B := ⟨_, rfl⟩
  rw [hR, hB]
  have HR := Lib.hid hR
  have HB := Lib.hid hB
  clear hR hB
  have HRo := Lib.hid (prRows_any w)
  go_enter Tryz.func114, Tryz.ntmps114
  go_wp2_with fail
  refine HRo.out.mono ?_
  rintro e w1 ⟨rfl, hk1⟩
  go_wp2
  go_loopw [6, 7, 9] (fun _ _ s wr => ∃ i : Nat, i ≤ 13 ∧ s = .int .i64 (i : Int) ∧ Hid (((rowL.take i).flatMap zrow).find? (fun x => Nat.beq x.1 c) = none) ∧ Below w.heap.size w wr) (fun _ _ s _ => 13 - (intOf s).toNat)
  case atStart => exact ⟨0, by omega, rfl, Lib.hid rfl, hk1⟩
  case round =>
    obtain ⟨i, hi, rfl, HF, hb⟩ := hrel
    by_cases hlt : i < 13
    · have t1 : decide ((i : Int) < 13) = true := by simp; omega
      have iz : (i : Int) < 13 := by omega
      obtain ⟨hok1, hok2, hl12, hl100⟩ := row_facts hlt
      obtain ⟨⟨hs1, hf1⟩, hs2, _⟩ := row_small hlt
      have hix := row_index i hlt
      unfold rowTri at hix
      have HNext := Lib.hid (rows_next hlt)
      have HSplit := Lib.hid (fun (p : Nat × Nat × Nat → Bool) (x : Nat × Nat × Nat) h h2 => find_split (p := p) hlt h (x := x) h2)
      obtain ⟨r, hr⟩ : ∃ r, rowAt i = r := ⟨_, rfl⟩
      rw [hr] at hok1 hok2 hl12 hl100 hs1 hf1 hs2 hix HNext HSplit
      clear hr
      obtain ⟨mk, ls, bs⟩ := r
      simp only at hok1 hok2 hl12 hl100 hs1 hf1 hs2 hix
      have HPl := Lib.hid fun W => prPlace_any ls c W hok1 hs1 hc (by have := enc_short hl100; omega) hf1
      have HAt := Lib.hid fun (k x : Nat) W (h : bs[k]? = some x) => prAt_any bs k x W hok2 h (by omega)
      have HL := Lib.hid hl12
      obtain ⟨S1, hS1⟩ : ∃ S, str (encL ls) = S := ⟨_, rfl⟩
      obtain ⟨S2, hS2⟩ : ∃ S, str (encL bs) = S := ⟨_, rfl⟩
      rw [hS1] at HPl hix
      rw [hS2] at HAt hix
      clear hok1 hok2 hl12 hl100 hs1 hf1 hs2 hS1 hS2
      go_wp2_with fail
      refine (HPl.out _).mono ?_
      rintro e w2 ⟨⟨z, rfl, hz⟩, k2⟩
      have hbx := (Box.made wr 141 #[.int .i64 (mk : Int), .string S1, .string S2]).below k2 (by simp)
      have hbw2 : Below w.heap.size w w2 := below_next (below_new hb _) k2
      have c0 : w2.cell? ⟨wr.heap.size, 0, none⟩ = some (.int .i64 (mk : Int)) := hbx.cell 0
      have c2 : w2.cell? ⟨wr.heap.size, 2, none⟩ = some (.string S2) := hbx.cell 2
      have hlt2 : wr.heap.size < w2.heap.size := hbx.lt
      rcases hz with ⟨rfl, hno⟩ | ⟨k, rfl, hf⟩
      · have HF2 : Hid (((rowL.take (i + 1)).flatMap zrow).find? (fun x => Nat.beq x.1 c) = none) := Lib.hid (by
          rw [HNext.out, List.find?_append, HF.out, zrow_none hno]
          rfl)
        clear hno k2
        go_wp2
        go_roundw
        case rel => exact ⟨i + 1, by omega, by go_num, HF2, hbw2⟩
        case measure => simp [intOf]; omega
      · obtain ⟨y, hy⟩ := get_some (l := bs) (i := k) (by have := get_lt hf.1; have := HL.out; omega)
        have hsp := HSplit.out _ _ HF.out (zrow_first hf hy)
        have HE1 : Hid (R = (y, mk)) := Lib.hid (by rw [← HR.out, pairR_some hsp])
        have HE2 : Hid (B = true) := Lib.hid (by
          rw [← HB.out, List.any_eq_true]
          exact ⟨_, List.mem_of_find?_eq_some hsp, beq_true c⟩)
        have t2 : decide ((0 : Int) ≤ (k : Int)) = true := by simp
        have HA := Lib.hid (fun W => HAt.out k y W hy)
        clear hf hy hsp k2
        go_wp2_with fail
        go_region_with (first | (go_at_call 126; refine (HA.out _).mono ?_; rintro e w3 ⟨rfl, k3⟩; have k4 : Below w2.heap.size w2 w3 := ((Below.refl w2.heap.size w2).drew).trans k3; have hbw3 := below_next hbw2 k4; have c0' := (k4.cell (p := ⟨wr.heap.size, 0, none⟩) hlt2).trans c0))
        all_goals
          go_wp2
          go_ret3
          rw [HE1.out, HE2.out]
          exact ⟨rfl, by first | exact hbw3 | exact below_drewN hbw3 _⟩
    · obtain rfl : i = 13 := by omega
      have hn := HF.out
      rw [rows_all] at hn
      have HE1 : Hid (R = (0, 0)) := Lib.hid (by rw [← HR.out, pairR_none hn])
      have HE2 : Hid (B = false) := Lib.hid (by
        rw [← HB.out, List.any_eq_false]
        exact List.find?_eq_none.1 hn)
      clear hn
      go_wp2
      go_ret3
      rw [HE1.out, HE2.out]
      exact ⟨rfl, hb⟩

end Go.Proofs.YtafnjbmeponobaaGreatDoor

namespace Go.Proofs.YtafnjbmeponobaaGreatDoor
open Go.RowKit

end Go.Proofs.YtafnjbmeponobaaGreatDoor

namespace Go.Proofs.YtafnjbmeponobaaGreatDoor
open Go.RowKit

theorem isM_kindP (c : Nat) : isM c = decide ((clsR (c : Int)).2 = 2) := by
  by_cases h : (clsR (c : Int)).2 = 2
  · rw [decide_eq_true h]
    have hk : (clsF c).2 = 2 := by rw [← clsF_eq]; exact h
    unfold isM
    rw [Nat.blt_eq]
    exact mark_pos (kind_mark hk)
  · rw [decide_eq_false h]
    unfold isM
    rw [← Bool.not_eq_true, Nat.blt_eq]
    have hk : clM c = 0 := by
      unfold clM kindR
      rw [if_neg h]
    omega

set_option maxRecDepth 20000 in
set_option maxHeartbeats 1600000 in
theorem prIsMark_any (c : Nat) (w : World) (hS : Spans w) :
    Calls Tryz.prog 118 #[.int .i64 (c : Int)] w fun e w' => e = .returned (.bool (isM c)) ∧ Below w.heap.size w w' := by
  have hcl := prClass_any (c : Int) w hS
  obtain ⟨a, ha⟩ : ∃ a, a = (clsR (c : Int)).1 := ⟨_, rfl⟩
  obtain ⟨k, hk⟩ : ∃ k, k = (clsR (c : Int)).2 := ⟨_, rfl⟩
  rw [← ha, ← hk] at hcl
  have HC := Lib.hid hcl
  have HB : Hid (isM c = ((k : Int) == 2)) := Lib.hid (by
    rw [isM_kindP, hk]
    by_cases h : (clsR (c : Int)).2 = 2
    · rw [decide_eq_true h, eqb_true (by omega)]
    · rw [decide_eq_false h, eqb_false (by omega)])
  clear hcl ha hk
  go_enter Tryz.func118, Tryz.ntmps118
  go_wp2_with fail
  refine HC.out.mono ?_
  rintro e w1 ⟨rfl, k1⟩
  unfold two
  go_wp2
  go_ret
  exact ⟨ret_bool HB.out.symm, k1⟩

/-- append of two integers. -/
theorem append_two {ops : Array Oper} {rest : List Oper} {o : Oper} {a : Act} {Q : Exit → Act → World → Prop} (w : World) (hgd : o.guard = none) (s x : Operand)
    (ho : o.op = .call { callee := .builtin .append, args := #[s, x], argTypes := #[34, 34] })
    (base : Nat) (v : Value) (xs : List Nat) (hs : a.eval s = v) (hown : w.ownsRow base 3 1 v xs.length (xs.map nv)) (y z : Nat) (u u' : Value) (hu : u = nv y) (hu' : u' = nv z)
    (hx : a.eval x = .slice (some ⟨w.heap.size, 0, none⟩) 2 2) (hlen : xs.length ≤ 1000000000000 - 2) (hbase : base ≤ w.heap.size)
    (h : ∀ v' w', w'.ownsRow base 3 1 v' (xs ++ [y, z]).length ((xs ++ [y, z]).map nv) → Below base w w' → wpList Tryz.prog ops Q rest (a.put o.dst v') w') : wpList Tryz.prog ops Q (o :: rest) a (w.alloc (.cells #[u, u'] 3)) := by
  refine append_ints (w.alloc (.cells #[u, u'] 3)) hgd s x ho base (w.heap.size + 1) v xs hs (own_keep_below hown ((Below.refl _ _).alloc (Nat.le_refl _) _)) [y, z] _ hx (Arr.of_box (Box.made _ _ _) rfl (Nat.le_refl _) ?_) (by simp; omega) (by simp; omega) ?_
  · intro i q hq
    match i, hq with
    | 0, hq => simp at hq; subst hq; rw [hu]; rfl
    | 1, hq => simp at hq; subst hq; rw [hu']; rfl
    | i + 2, hq => simp at hq
  · intro v' w' h1 h2
    exact h v' w' h1 (((Below.refl _ _).alloc hbase _).trans h2)

theorem pairs_nz : (pairL.all fun x => !Nat.beq x.2.1 0 && Nat.ble 192 x.1) = true := by kernel_rfl
theorem whole_lo {c : Nat} (h : c < 128) : wholeR c = [c] := by
  unfold wholeR
  rw [beq_false (by omega : c ≠ 160), beq_false (by omega : c ≠ 185), beq_false (by omega : c ≠ 178), beq_false (by omega : c ≠ 179), beq_false (by omega : c ≠ 383), beq_false (by omega : c ≠ 64257), beq_false (by omega : c ≠ 64258)]
  have h1 : inN c 65281 65374 = false := by
    unfold inN
    rw [← Bool.not_eq_true, Bool.and_eq_true, Nat.ble_eq, Nat.ble_eq]
    omega
  have h2 : Nat.blt c 192 = true := by rw [Nat.blt_eq]; omega
  rw [h1, h2]
  rfl
theorem whole_parts {c : Nat} (h1 : c ≠ 160) (h2 : c ≠ 185) (h3 : c ≠ 178) (h4 : c ≠ 179) (h5 : c ≠ 383) (h6 : c ≠ 64257) (h7 : c ≠ 64258) (h8 : ¬ (65281 ≤ c ∧ c ≤ 65374)) :
    wholeR c = if (pairL.any fun x => Nat.beq x.1 c) = true then [(pairR c).1, (pairR c).2] else [c] := by
  unfold wholeR
  rw [beq_false h1, beq_false h2, beq_false h3, beq_false h4, beq_false h5, beq_false h6, beq_false h7]
  have hi : inN c 65281 65374 = false := by
    unfold inN
    rw [← Bool.not_eq_true, Bool.and_eq_true, Nat.ble_eq, Nat.ble_eq]
    omega
  rw [hi]
  simp only [Bool.or_self, Bool.false_eq_true, if_false]
  cases hf : pairL.find? (fun x => Nat.beq x.1 c) with
  | none =>
    have ha : (pairL.any fun x => Nat.beq x.1 c) = false := by
      rw [List.any_eq_false]
      exact List.find?_eq_none.1 hf
    rw [ha, pairR_none hf]
    simp
  | some x =>
    have hm := List.mem_of_find?_eq_some hf
    have hp := List.find?_some hf
    have hx : x.1 = c := by simpa using hp
    have ha : (pairL.any fun x => Nat.beq x.1 c) = true := List.any_eq_true.2 ⟨x, hm, hp⟩
    have hz := List.all_eq_true.1 pairs_nz x hm
    rw [Bool.and_eq_true, Nat.ble_eq, Bool.not_eq_true', ← Bool.not_eq_true, Nat.beq_eq] at hz
    have hlt : Nat.blt c 192 = false := by rw [← Bool.not_eq_true, Nat.blt_eq]; omega
    rw [ha, pairR_some hf, hlt, beq_false hz.1]
    simp
theorem ok_small {c : Nat} (h : okC c) : c < 1536 ∨ c = 64257 ∨ c = 64258 ∨ (65281 ≤ c ∧ c ≤ 65374) := by
  have hn := has_of_ok h
  unfold hasN at hn
  split at hn
  · rename_i hi
    unfold inN at hi
    rw [Bool.and_eq_true, Nat.ble_eq, Nat.ble_eq] at hi
    omega
  · rcases hasA_range hn with h | h | h
    · exact .inl h
    · exact .inr (.inl h)
    · exact .inr (.inr (.inl h))

/-- What appending leaves: a row of the call's own that holds these. -/
def OwnEnd (base : Nat) (w : World) (xs : List Nat) (e : Ending) (w' : World) : Prop := ∃ v', e = .returned v' ∧ w'.ownsRow base 3 1 v' xs.length (xs.map nv) ∧ Below base w w'

set_option maxRecDepth 100000 in
set_option maxHeartbeats 6400000 in
theorem prParts_any (base : Nat) (v : Value) (xs : List Nat) (c : Nat) (w : World) (hc : okC c) (hbase : base ≤ w.heap.size) (hlen : xs.length ≤ 1000000) (hown : w.ownsRow base 3 1 v xs.length (xs.map nv)) :
    Calls Tryz.prog 99 #[v, .int .i64 (c : Int)] w (OwnEnd base w (xs ++ wholeR c)) := by
  have hcs := ok_small hc
  obtain ⟨R, hR⟩ : ∃ R, wholeR c = R := ⟨_, rfl⟩
  rw [hR]
  have hown0 := hown
  by_cases h0 : c < 128
  · have t0 : decide ((c : Int) < 128) = true := by simp; omega
    have HE : Hid (R = [c]) := Lib.hid (by rw [← hR, whole_lo h0])
    clear hR hcs
    go_enter Tryz.func99, Tryz.ntmps99
    go_wp2_with (at_builtin; refine append_int w rfl (.tmp 11) (.tmp 13) rfl base v xs rfl hown0 c _ rfl rfl (by omega) hbase ?_; intro v1 w1 hown1 hb1)
    go_ret
    rw [HE.out]
    exact ⟨v1, rfl, hown1, hb1⟩
  have t0 : decide ((c : Int) < 128) = false := by simp; omega
  by_cases h1 : c = 160
  · have t1 : ((c : Int) == 160) = true := eqb_true (by omega)
    have HE : Hid (R = [32]) := Lib.hid (by rw [← hR, h1]; rfl)
    clear hR hcs
    go_enter Tryz.func99, Tryz.ntmps99
    go_wp2_with (at_builtin; refine append_int w rfl (.tmp 18) (.tmp 19) rfl base v xs rfl hown0 32 _ rfl rfl (by omega) hbase ?_; intro v1 w1 hown1 hb1)
    go_ret
    rw [HE.out]
    exact ⟨v1, rfl, hown1, hb1⟩
  have t1 : ((c : Int) == 160) = false := eqb_false (by omega)
  by_cases h2 : c = 185
  · have t2 : ((c : Int) == 185) = true := eqb_true (by omega)
    have HE : Hid (R = [49]) := Lib.hid (by rw [← hR, h2]; rfl)
    clear hR hcs
    go_enter Tryz.func99, Tryz.ntmps99
    go_wp2_with (at_builtin; refine append_int w rfl (.tmp 24) (.tmp 25) rfl base v xs rfl hown0 49 _ rfl rfl (by omega) hbase ?_; intro v1 w1 hown1 hb1)
    go_ret
    rw [HE.out]
    exact ⟨v1, rfl, hown1, hb1⟩
  have t2 : ((c : Int) == 185) = false := eqb_false (by omega)
  by_cases h3 : c = 178
  · have t3 : ((c : Int) == 178) = true := eqb_true (by omega)
    have HE : Hid (R = [50]) := Lib.hid (by rw [← hR, h3]; rfl)
    clear hR hcs
    go_enter Tryz.func99, Tryz.ntmps99
    go_wp2_with (at_builtin; refine append_int w rfl (.tmp 30) (.tmp 31) rfl base v xs rfl hown0 50 _ rfl rfl (by omega) hbase ?_; intro v1 w1 hown1 hb1)
    go_ret
    rw [HE.out]
    exact ⟨v1, rfl, hown1, hb1⟩
  have t3 : ((c : Int) == 178) = false := eqb_false (by omega)
  by_cases h4 : c = 179
  · have t4 : ((c : Int) == 179) = true := eqb_true (by omega)
    have HE : Hid (R = [51]) := Lib.hid (by rw [← hR, h4]; rfl)
    clear hR hcs
    go_enter Tryz.func99, Tryz.ntmps99
    go_wp2_with (at_builtin; refine append_int w rfl (.tmp 36) (.tmp 37) rfl base v xs rfl hown0 51 _ rfl rfl (by omega) hbase ?_; intro v1 w1 hown1 hb1)
    go_ret
    rw [HE.out]
    exact ⟨v1, rfl, hown1, hb1⟩
  have t4 : ((c : Int) == 179) = false := eqb_false (by omega)
  by_cases h5 : c = 383
  · have t5 : ((c : Int) == 383) = true := eqb_true (by omega)
    have HE : Hid (R = [115]) := Lib.hid (by rw [← hR, h5]; rfl)
    clear hR hcs
    go_enter Tryz.func99, Tryz.ntmps99
    go_wp2_with (at_builtin; refine append_int w rfl (.tmp 42) (.tmp 43) rfl base v xs rfl hown0 115 _ rfl rfl (by omega) hbase ?_; intro v1 w1 hown1 hb1)
    go_ret
    rw [HE.out]
    exact ⟨v1, rfl, hown1, hb1⟩
  have t5 : ((c : Int) == 383) = false := eqb_false (by omega)
  by_cases h6 : c = 64257
  · have t6 : ((c : Int) == 64257) = true := eqb_true (by omega)
    have HE : Hid (R = [102, 105]) := Lib.hid (by rw [← hR, h6]; rfl)
    clear hR hcs
    go_enter Tryz.func99, Tryz.ntmps99
    go_wp2_with (at_builtin; refine append_two w rfl (.tmp 48) (.tmp 49) rfl base v xs rfl hown0 102 105 _ _ rfl rfl rfl (by omega) hbase ?_; intro v1 w1 hown1 hb1)
    go_ret
    rw [HE.out]
    exact ⟨v1, rfl, hown1, hb1⟩
  have t6 : ((c : Int) == 64257) = false := eqb_false (by omega)
  by_cases h7 : c = 64258
  · have t7 : ((c : Int) == 64258) = true := eqb_true (by omega)
    have HE : Hid (R = [102, 108]) := Lib.hid (by rw [← hR, h7]; rfl)
    clear hR hcs
    go_enter Tryz.func99, Tryz.ntmps99
    go_wp2_with (at_builtin; refine append_two w rfl (.tmp 54) (.tmp 55) rfl base v xs rfl hown0 102 108 _ _ rfl rfl rfl (by omega) hbase ?_; intro v1 w1 hown1 hb1)
    go_ret
    rw [HE.out]
    exact ⟨v1, rfl, hown1, hb1⟩
  have t7 : ((c : Int) == 64258) = false := eqb_false (by omega)
  by_cases h8 : 65281 ≤ c ∧ c ≤ 65374
  · have t8 : decide (65281 ≤ (c : Int)) = true := by simp; omega
    have t9 : decide ((c : Int) ≤ 65374) = true := by simp; omega
    have HE : Hid (R = [c - 65248]) := Lib.hid (by
      rw [← hR]
      unfold wholeR
      rw [beq_false h1, beq_false h2, beq_false h3, beq_false h4, beq_false h5, beq_false h6, beq_false h7]
      have hi : inN c 65281 65374 = true := by
        unfold inN
        rw [Bool.and_eq_true, Nat.ble_eq, Nat.ble_eq]
        exact h8
      rw [hi]
      rfl)
    have e1 : (c : Int) - 65248 = ((c - 65248 : Nat) : Int) := by omega
    obtain ⟨d, hd⟩ : ∃ d, c - 65248 = d := ⟨_, rfl⟩
    rw [hd] at HE e1
    have hdb : d ≤ 1000000 := by omega
    clear hR hcs hd
    go_enter Tryz.func99, Tryz.ntmps99
    go_wp2_with (at_builtin; refine append_int w rfl (.tmp 64) (.tmp 67) rfl base v xs rfl hown0 d _ (by first | rfl | (rw [e1]; rfl)) rfl (by omega) hbase ?_; intro v1 w1 hown1 hb1)
    go_ret
    rw [HE.out]
    exact ⟨v1, rfl, hown1, hb1⟩
  have hdec := whole_parts h1 h2 h3 h4 h5 h6 h7 h8
  rw [hR] at hdec
  have HD := Lib.hid (prDivide_any c w (by omega))
  obtain ⟨x, hx⟩ : ∃ x, (pairR c).1 = x := ⟨_, rfl⟩
  obtain ⟨y, hy⟩ : ∃ y, (pairR c).2 = y := ⟨_, rfl⟩
  rw [hx, hy] at HD hdec
  have t89 : ¬ (65281 ≤ c) ∨ ¬ (c ≤ 65374) := by omega
  cases hB : (pairL.any fun x => Nat.beq x.1 c) with
  | true =>
    rw [hB] at HD hdec
    have HE : Hid (R = [x, y]) := Lib.hid (by rw [hdec, if_pos rfl])
    clear hR hcs hdec hB hx hy
    rcases t89 with t8 | t8
    all_goals
      go_enter Tryz.func99, Tryz.ntmps99
      go_wp2_with fail
      refine HD.out.mono ?_
      rintro e w2 ⟨rfl, k2⟩
      have hown2 := own_keep_below hown0 k2
      have hbase2 : base ≤ w2.heap.size := Nat.le_trans hbase k2.size
      go_wp2_with (at_builtin; refine append_two w2 rfl (.tmp 76) (.tmp 79) rfl base v xs rfl hown2 x y _ _ rfl rfl rfl (by omega) hbase2 ?_; intro v1 w1 hown1 hb1)
      go_ret
      rw [HE.out]
      exact ⟨v1, rfl, hown1, (k2.mono hbase).trans hb1⟩
  | false =>
    rw [hB] at HD hdec
    have HE : Hid (R = [c]) := Lib.hid (by rw [hdec, if_neg (by simp)])
    clear hR hcs hdec hB hx hy
    rcases t89 with t8 | t8
    all_goals
      go_enter Tryz.func99, Tryz.ntmps99
      go_wp2_with fail
      refine HD.out.mono ?_
      rintro e w2 ⟨rfl, k2⟩
      have hown2 := own_keep_below hown0 k2
      have hbase2 : base ≤ w2.heap.size := Nat.le_trans hbase k2.size
      go_wp2_with (at_builtin; refine append_int w2 rfl (.tmp 81) (.tmp 83) rfl base v xs rfl hown2 c _ rfl rfl (by omega) hbase2 ?_; intro v1 w1 hown1 hb1)
      go_ret
      rw [HE.out]
      exact ⟨v1, rfl, hown1, (k2.mono hbase).trans hb1⟩

end Go.Proofs.YtafnjbmeponobaaGreatDoor
