/-
  The contract of Open.
-/
import Derived.Test.YtjmmhgdafjdmdaaSealRef
import Derived.ChangeKeysEq
namespace Go.Proofs.Ytjmmhgdafjdmdaa
open Go.RowKit

theorem eq_u8 (d : Nat) (x y : Int) (w : World) : (Op.equalIn (d + 1) 5 (.int .u8 x) (.int .u8 y)).run Try.prog w = .ok (x == y) w := by
  simp [Op.equalIn, run_underlying Try.underlying5]

theorem eq_4 (x0 x1 x2 x3 y0 y1 y2 y3 : Int) (w : World) : (Op.equalIn 10000 49 (.agg #[.int .u8 x0, .int .u8 x1, .int .u8 x2, .int .u8 x3]) (.agg #[.int .u8 y0, .int .u8 y1, .int .u8 y2, .int .u8 y3])).run Try.prog w = .ok (x0 == y0 && x1 == y1 && x2 == y2 && x3 == y3) w := by
  obtain ⟨i0, hi, hz0, hz1, hz2⟩ := info_parts info_u8
  have hc : Try.prog.cellsOf 5 = 1 := by kernel_rfl
  rw [show (10000 : Nat) = 9999 + 1 from rfl, run_equalIn_array w 9999 _ _ Try.underlying49 hi, hc]
  simp only [show List.range 4 = [0, 1, 2, 3] from rfl, Op.eqItems]
  simp [Go.part, eq_u8, Sem.run_bind]
  by_cases h0 : x0 = y0 <;> by_cases h1 : x1 = y1 <;> by_cases h2 : x2 = y2 <;> by_cases h3 : x3 = y3 <;> simp [h0, h1, h2, h3]

/-- Four bytes are compared with a sum. -/
theorem eq_sum (q0 q1 q2 q3 : UInt8) (h : BitVec 32) (r : Bool) (hr : decide ([q0, q1, q2, q3] = le4 h) = r) (w : World) :
    (Op.equalIn 10000 49 (.agg #[.int .u8 (q0.toNat : Int), .int .u8 (q1.toNat : Int), .int .u8 (q2.toNat : Int), .int .u8 (q3.toNat : Int)]) (.agg (sumCells h.toNat))).run Try.prog w = .ok r w := by
  subst hr
  rw [sumCells_eq]
  generalize hl : le4 h = l
  obtain ⟨l0, l1, l2, l3, rfl⟩ : ∃ l0 l1 l2 l3, l = [l0, l1, l2, l3] := ⟨_, _, _, _, hl.symm⟩
  have e : ∀ a b : UInt8, ((a.toNat : Int) == (b.toNat : Int)) = decide (a = b) := by
    intro a b
    by_cases hab : a = b
    · subst hab; simp
    · have : ¬ (a.toNat : Int) = (b.toNat : Int) := fun e => hab (UInt8.toNat_inj.1 (by omega))
      rw [decide_eq_false hab]
      simpa using this
  simp only [List.map_cons, List.map_nil, bv]
  rw [eq_4, e, e, e, e]
  by_cases h0 : q0 = l0 <;> by_cases h1 : q1 = l1 <;> by_cases h2 : q2 = l2 <;> by_cases h3 : q3 = l3 <;> simp [h0, h1, h2, h3]

theorem slice_tail (b off m c : Nat) (hc : m + 4 ≤ c) (W : World) :
    (Instr.sliceAt 22 (.slice (some ⟨b, off, none⟩) (m + 4) c) (some (.int .i64 (m : Int))) none none).run Try.prog W = .ok (.slice (some ⟨b, off + m, none⟩) 4 (c - m)) W := by
  have ht : Try.prog.underlying 22 = some (.slice (Try.prog.elem 22)) := by kernel_rfl
  have hs : (sizeOf (Try.prog.elem 22)).run Try.prog W = .ok 1 W := by kernel_rfl
  rw [run_sliceAt_slice W _ _ _ _ _ ht, run_slice_l W _ _ (m + 4) c ht .i64 (m : Int) (by omega) (by omega), hs]
  simp only [Result.andThen, sliced, Int.toNat_natCast, Nat.mul_one]
  rw [if_neg (by omega), Option.map_some, add_plain, show m + 4 - m = 4 from by omega]

set_option maxHeartbeats 800000 in
theorem clone_any (a : Addr) (n c : Nat) (bs : List UInt8) (B : Nat) (w : World) (hs : Sl w B (.slice (some a) n c) bs) (hn : bs.length = n) (hB : B ≤ w.heap.size) (hlen : n ≤ 1000) :
    Calls Try.prog 33 #[.slice (some a) n c] w fun e w' => ∃ v', e = .returned v' ∧ w'.ownsRow w.heap.size 5 1 v' bs.length (bs.map bv) ∧ Below w.heap.size w w' := by
  have HN := Lib.hid hn
  clear hn
  have h1 : Sl (w.alloc (.cells #[] 5)) B (.slice (some a) n c) bs := hs.below ((Below.refl _ _).alloc hB _)
  have hl := HN.out
  have heq := fun W : World => Lib.run_eql_slice_nil (P := Try.prog) W 22 5 (some a) n c 0 0 Try.underlying22
  go_enter Try.func33, Try.ntmps33
  go_wp2_with (at_builtin; refine append_bytes _ rfl (.tmp 5) (.tmp 6) rfl w.heap.size B (.slice (some ⟨w.heap.size, 0, none⟩) 0 0) [] rfl (own_empty w) bs _ rfl h1 (by simp; omega) (by simp) ?_; intro r1 w1 hown1 hb1)
  go_ret
  exact ⟨_, rfl, hown1, ((Below.refl _ _).alloc (Nat.le_refl _) _).trans hb1⟩

theorem sumOf_from (W : World) (v : Value) (bs : List UInt8) (w : World) (hk : Below W.heap.size W w) (hs : Sl W W.heap.size v bs) (hlen : bs.length ≤ 1000000000000) :
    Calls Try.prog 29 #[v] w fun e w' => e = .returned (.agg (sumCells (crc bs).toNat)) ∧ Below W.heap.size W w' :=
  (sumOf_any v bs W.heap.size w (hs.at hk) hk.size hlen).mono fun _ _ ⟨h1, h2⟩ => ⟨h1, hk.trans (h2.mono hk.size)⟩

/-- What Open hands back. -/
def OpenEnd (bs : List UInt8) (e : Ending) (w' : World) : Prop := ∃ v', e = .returned (.tuple #[v', .int .i64 ((open_ bs).2 : Int)]) ∧ Sl w' w'.heap.size v' (open_ bs).1

theorem OpenEnd.short {bs : List UInt8} {w : World} (h : bs.length < 4) : OpenEnd bs (.returned (.tuple #[.slice none 0 0, .int .i64 5])) w := by
  have : open_ bs = ([], 5) := by unfold open_; rw [if_pos h]
  unfold OpenEnd
  rw [this]
  exact ⟨_, rfl, Sl.nil_ _ _⟩
theorem OpenEnd.bad {p q : List UInt8} {w : World} (hq : q.length = 4) (h : q ≠ le4 (crc p)) : OpenEnd (p ++ q) (.returned (.tuple #[.slice none 0 0, .int .i64 6])) w := by
  have : open_ (p ++ q) = ([], 6) := by
    unfold open_
    rw [List.length_append, if_neg (by omega), show p.length + q.length - 4 = p.length from by omega, List.drop_left, List.take_left, if_neg h]
  unfold OpenEnd
  rw [this]
  exact ⟨_, rfl, Sl.nil_ _ _⟩
theorem OpenEnd.good {p q : List UInt8} {v : Value} {w : World} (hq : q.length = 4) (h : q = le4 (crc p)) (hs : Sl w w.heap.size v p) : OpenEnd (p ++ q) (.returned (.tuple #[v, .int .i64 0])) w := by
  have : open_ (p ++ q) = (p, 0) := by
    unfold open_
    rw [List.length_append, if_neg (by omega), show p.length + q.length - 4 = p.length from by omega, List.drop_left, List.take_left, if_pos h]
  unfold OpenEnd
  rw [this]
  exact ⟨_, rfl, hs⟩

set_option maxHeartbeats 800000 in
theorem openShort_any (A : Option Addr) (n c : Nat) (bs : List UInt8) (w : World) (hn : bs.length = n) (h4 : n < 4) :
    Calls Try.prog 20 #[.slice A n c] w fun e w' => OpenEnd bs e w' ∧ Below w.heap.size w w' := by
  have HE := Lib.hid (OpenEnd.short (bs := bs) (w := w) (by omega))
  clear hn
  go_enter Try.func20, Try.ntmps20
  go_wp2
  go_ret2
  exact ⟨HE.out, Below.refl _ _⟩

set_option maxRecDepth 100000 in
set_option maxHeartbeats 1600000 in
theorem openLong_any (b off c m : Nat) (p : List UInt8) (q0 q1 q2 q3 : UInt8) (w : World) (hp : p.length = m) (hm : m ≤ 900) (hb : b < w.heap.size) (hc : m + 4 ≤ c)
    (hsl : Sl w w.heap.size (.slice (some ⟨b, off, none⟩) m c) p)
    (c0 : w.cell? ⟨b, off + m, none⟩ = some (bv q0)) (c1 : w.cell? ⟨b, off + m + 1, none⟩ = some (bv q1)) (c2 : w.cell? ⟨b, off + m + 2, none⟩ = some (bv q2)) (c3 : w.cell? ⟨b, off + m + 3, none⟩ = some (bv q3)) :
    Calls Try.prog 20 #[.slice (some ⟨b, off, none⟩) (m + 4) c] w fun e w' => OpenEnd (p ++ [q0, q1, q2, q3]) e w' ∧ Below w.heap.size w w' := by
  have HP := Lib.hid hp
  clear hp
  have f1 := slice_tail b off m c hc
  have f2 := slice_head (some ⟨b, off, none⟩) (m + 4) c m (by omega)
  have f3 := fun W : World => run_arrayAt (P := Try.prog) W 49 5 4 (some ⟨b, off + m, none⟩) 4 (c - m) Try.underlying49 (Nat.le_refl _)
  simp only [bv] at c0 c1 c2 c3
  by_cases hq : [q0, q1, q2, q3] = le4 (crc p)
  · have f4 := eq_sum q0 q1 q2 q3 (crc p) true (by rw [hq]; simp)
    have HQ := Lib.hid hq
    clear hq
    go_enter Try.func20, Try.ntmps20
    go_wp2
    go_region_held3 (fun W' => W'.cell? ⟨b, off + m, none⟩ = some (.int .u8 (q0.toNat : Int)) ∧ W'.cell? ⟨b, off + m + 1, none⟩ = some (.int .u8 (q1.toNat : Int)) ∧ W'.cell? ⟨b, off + m + 2, none⟩ = some (.int .u8 (q2.toNat : Int)) ∧ W'.cell? ⟨b, off + m + 3, none⟩ = some (.int .u8 (q3.toNat : Int))) (first | exact ⟨c0, c1, c2, c3⟩ | exact ⟨(hbI.cell hb).trans c0, (hbI.cell hb).trans c1, (hbI.cell hb).trans c2, (hbI.cell hb).trans c3⟩) (first | (go_at_call 29; go_must (refine (sumOf_from w _ p _ ?_ hsl (by have := HP.out; omega)).mono ?_); go_must (first | exact Below.refl _ _ | exact (Below.refl _ _).drew); rintro e wI ⟨rfl, hbI⟩))
    all_goals
      clear c0 c1 c2 c3
      go_wp2_with fail
      refine (clone_any ⟨b, off, none⟩ m c p _ _ (hsl.at hbI) HP.out hbI.size (by omega)).mono ?_
      rintro e w2 ⟨v2, rfl, hown2, hb2⟩
      go_wp2
      go_ret2
      exact ⟨OpenEnd.good rfl HQ.out (Sl.of_own hown2), hbI.trans (hb2.mono hbI.size)⟩
  · have f4 := eq_sum q0 q1 q2 q3 (crc p) false (by simp [hq])
    have HQ := Lib.hid hq
    clear hq
    go_enter Try.func20, Try.ntmps20
    go_wp2
    go_region_held3 (fun W' => W'.cell? ⟨b, off + m, none⟩ = some (.int .u8 (q0.toNat : Int)) ∧ W'.cell? ⟨b, off + m + 1, none⟩ = some (.int .u8 (q1.toNat : Int)) ∧ W'.cell? ⟨b, off + m + 2, none⟩ = some (.int .u8 (q2.toNat : Int)) ∧ W'.cell? ⟨b, off + m + 3, none⟩ = some (.int .u8 (q3.toNat : Int))) (first | exact ⟨c0, c1, c2, c3⟩ | exact ⟨(hbI.cell hb).trans c0, (hbI.cell hb).trans c1, (hbI.cell hb).trans c2, (hbI.cell hb).trans c3⟩) (first | (go_at_call 29; go_must (refine (sumOf_from w _ p _ ?_ hsl (by have := HP.out; omega)).mono ?_); go_must (first | exact Below.refl _ _ | exact (Below.refl _ _).drew); rintro e wI ⟨rfl, hbI⟩))
    all_goals
      clear c0 c1 c2 c3
      go_wp2
      go_ret2
      exact ⟨OpenEnd.bad rfl HQ.out, hbI⟩

end Go.Proofs.Ytjmmhgdafjdmdaa
