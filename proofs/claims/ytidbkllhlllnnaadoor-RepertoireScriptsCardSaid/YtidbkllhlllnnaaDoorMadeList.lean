/-
  The program's List: the spans' numbers one behind the other, and the fullwidth ones.
-/
import Derived.Test.YtidbkllhlllnnaaDoorMadeEnc
import Derived.Deep.RegionHeld3
import Derived.Deep.RegionLaw
namespace Go.Proofs.YtidbkllhlllnnaaDoor
open Go.RowKit

set_option maxRecDepth 20000 in
set_option maxHeartbeats 1600000 in
theorem appendFrom_any (base : Nat) (v : Value) (l : List Nat) (lo hi : Nat) (w : World) (hlo : lo ≤ hi + 1) (hhi : hi ≤ 65535) (hl : l.length ≤ 1000000) (hbase : base ≤ w.heap.size) (hown : w.ownsRow base 3 1 v l.length (l.map nv)) :
    Calls Tryd.prog 37 #[v, .int .i64 (lo : Int), .int .i64 (hi : Int)] w fun e w' =>
      ∃ v', e = .returned v' ∧ w'.ownsRow base 3 1 v' (l ++ List.range' lo (hi + 1 - lo)).length ((l ++ List.range' lo (hi + 1 - lo)).map nv) ∧ Below base w w' := by
  go_enter Tryd.func37, Tryd.ntmps37
  go_wp2
  go_loopw [0, 7] (fun s i wr => ∃ (k : Nat) (m : List Nat), lo ≤ k ∧ k ≤ hi + 1 ∧ i = .int .i64 (k : Int) ∧ Hid (m = l ++ List.range' lo (k - lo)) ∧ wr.ownsRow base 3 1 s m.length (m.map nv) ∧ Below base w wr) (fun _ i _ => hi + 1 - (intOf i).toNat)
  case atStart => exact ⟨lo, l, Nat.le_refl _, hlo, rfl, Lib.hid (by simp), hown, Below.refl _ _⟩
  case round =>
    obtain ⟨k, m, hk1, hk2, rfl, HM, ho, hb⟩ := hrel
    have hbs := hb.size
    by_cases hlt : k ≤ hi
    · have i1 : decide ((k : Int) ≤ (hi : Int)) = true := by simp; omega
      have HM2 : Hid (m ++ [k] = l ++ List.range' lo (k + 1 - lo)) := Lib.hid (by
        rw [HM.out, show k + 1 - lo = (k - lo) + 1 by omega, List.range'_concat, List.append_assoc]
        congr 3
        omega)
      have hml : m.length ≤ 1000000 + 70000 := by
        have := HM.out
        rw [this, List.length_append, List.length_range']
        omega
      go_wp2_with (at_builtin; refine append_int wr rfl (.tmp 14) (.tmp 16) rfl base u0 m rfl ho k _ rfl rfl (by omega) (by omega) ?_; intro r1 w3 ho3 hb3)
      go_roundw
      case rel => exact ⟨k + 1, m ++ [k], by omega, by omega, by go_num, HM2, ho3, hb.trans hb3⟩
      case measure => simp [intOf]; omega
    · obtain rfl : k = hi + 1 := by omega
      have i1 : decide (((hi + 1 : Nat) : Int) ≤ (hi : Int)) = false := by simp; omega
      go_wp2
      go_ret
      rw [HM.out] at ho
      exact ⟨_, rfl, ho, hb⟩

/-- The numbers of the first i spans. -/
def spanNums (i : Nat) : List Nat := (tabL.take i).flatMap fun x => List.range' x.1 (x.2.1 + 1 - x.1)
theorem spanNums_next {i : Nat} (hi : i < 41) : spanNums (i + 1) = spanNums i ++ List.range' (spanAt i).1 ((spanAt i).2.1 + 1 - (spanAt i).1) := by
  unfold spanNums
  rw [take_next (tab_get hi), List.flatMap_append]
  simp
theorem spanNums_all : spanNums 41 ++ List.range' 65281 94 = charL := by kernel_rfl
theorem spanNums_len (i : Nat) : (spanNums i).length ≤ 442 := by
  have h : (spanNums 41).length = 442 := by
    have h1 := congrArg List.length spanNums_all
    rw [List.length_append, List.length_range', char_len] at h1
    omega
  rw [← h]
  unfold spanNums
  rw [List.take_of_length_le (l := tabL) (i := 41) (by rw [tab_len]; omega)]
  conv => rhs; rw [← List.take_append_drop i tabL]
  rw [List.flatMap_append, List.length_append]
  omega
theorem span_le : ∀ i : Fin 41, (spanAt i.val).1 ≤ (spanAt i.val).2.1 + 1 ∧ (spanAt i.val).2.1 ≤ 65535 := by decide +kernel

set_option maxRecDepth 20000 in
set_option maxHeartbeats 1600000 in
theorem prList_any (w : World) (hS : Spans w) :
    Calls Tryd.prog 26 #[] w fun e w' => ∃ v, e = .returned v ∧ w'.ownsRow w.heap.size 3 1 v charL.length (charL.map nv) ∧ Below w.heap.size w w' := by
  have hS0 := hS.lt
  go_enter Tryd.func26, Tryd.ntmps26
  go_wp2
  go_loopw [1, 3] (fun v i wr => ∃ (k : Nat) (l : List Nat), k ≤ 41 ∧ i = .int .i64 (k : Int) ∧ Hid (l = spanNums k) ∧ wr.ownsRow w.heap.size 3 1 v l.length (l.map nv) ∧ Below w.heap.size w wr) (fun _ i _ => 41 - (intOf i).toNat)
  case atStart => exact ⟨0, [], by omega, rfl, Lib.hid rfl, World.ownsRow_nil _ _ _ _, Below.refl _ _⟩
  case round =>
    obtain ⟨k, l, hk, rfl, HL, ho, hb⟩ := hrel
    have hll : l.length ≤ 442 := by rw [HL.out]; exact spanNums_len k
    have hbs := hb.size
    by_cases hlt : k < 41
    · have i1 : decide ((k : Int) < 41) = true := by simp; omega
      have hiz : (k : Int) < (41 : Int) := by omega
      obtain ⟨c0, c1, _, _⟩ := (hS.below hb).cells hlt
      obtain ⟨hs1, hs2⟩ := span_le ⟨k, hlt⟩
      have hs3 := (span_small ⟨k, hlt⟩).1
      have hN := spanNums_next hlt
      obtain ⟨sp, hsp⟩ : ∃ sp, spanAt k = sp := ⟨_, rfl⟩
      simp only at hs1 hs2 hs3
      rw [hsp] at c0 c1 hs1 hs2 hs3 hN
      obtain ⟨fi, la, sc, ki⟩ := sp
      simp only at c0 c1 hs1 hs2 hs3 hN
      have HN := Lib.hid hN
      clear hsp hN
      have s1 : IntKind.i64.wrap (fi : Int) = (fi : Int) := wraps_i64 _ (by omega) (by omega)
      have s2 : IntKind.i64.wrap (la : Int) = (la : Int) := wraps_i64 _ (by omega) (by omega)
      have hA := Lib.hid fun W (hW : w.heap.size ≤ W.heap.size) (ho : W.ownsRow w.heap.size 3 1 u1 l.length (l.map nv)) => appendFrom_any w.heap.size u1 l fi la W hs1 hs2 (by omega) hW ho
      have hbs' : w.heap.size ≤ wr.drew.heap.size := hbs
      have ho' : wr.drew.ownsRow w.heap.size 3 1 u1 l.length (l.map nv) := ho
      have hb' : Below w.heap.size w wr.drew := hb.drew
      go_wp2
      go_region_held3 (fun v => v.cell? ⟨0, k * 4, none⟩ = some (.int .u16 (fi : Int)) ∧ v.cell? ⟨0, k * 4 + 1, none⟩ = some (.int .u16 (la : Int))) (first | exact ⟨c0, c1⟩ | exact ⟨c0', c1'⟩)
        (first
          | (go_at_call 37; (with_reducible refine (hA.out _ hbs' ho').mono ?_); rintro e w2 ⟨v2, rfl, ho2, hb2⟩; have c0' := (hb2.cell (p := ⟨0, k * 4, none⟩) hS0).trans c0; have c1' := (hb2.cell (p := ⟨0, k * 4 + 1, none⟩) hS0).trans c1))
      all_goals
        go_wp2
        go_roundw
        case rel => exact ⟨k + 1, _, by omega, by go_num, Lib.hid (by rw [HN.out, HL.out]), ho2, hb'.trans hb2⟩
        case measure => simp [intOf]; omega
    · obtain rfl : k = 41 := by omega
      have HE : Hid (l ++ List.range' 65281 (65374 + 1 - 65281) = charL) := Lib.hid (by rw [HL.out]; exact spanNums_all)
      have hA := Lib.hid (appendFrom_any w.heap.size u1 l 65281 65374 wr (by omega) (by omega) (by omega) hbs ho)
      go_wp2_with fail
      refine hA.out.mono ?_
      rintro e w2 ⟨v2, rfl, ho2, hb2⟩
      rw [HE.out] at ho2
      go_wp2
      go_ret
      exact ⟨_, rfl, ho2, hb.trans hb2⟩

end Go.Proofs.YtidbkllhlllnnaaDoor
