/-
  The contracts of the reference's SameInts and SameTexts at equal lists, of behind, and of the reader's method Bool.
-/
import Derived.Test.YtefonoaffeahjaaPrefix
namespace Go.Proofs.Ytefonoaffeahjaa
open Go.RowKit

/-- An element, with its address written out, and where its block is. -/
theorem Arr.at2 {α : Type} {val : α → Value} {w : World} {B n c : Nat} {A : Option Addr} {xs : List α} (h : Arr val w B (.slice A n c) xs) {k : Nat} (hk : k < n) :
    ∃ b off u, A = some ⟨b, off, none⟩ ∧ b < B ∧ xs[k]? = some u ∧ w.cell? ⟨b, off + k, none⟩ = some (val u) := by
  obtain ⟨b, off, u, e, hu, hc⟩ := h.at_ hk
  refine ⟨b, off, u, e, ?_, hu, hc⟩
  rcases h with ⟨e2, _⟩ | ⟨a, c', e2, hl, hb, _⟩
  · injection e2; omega
  · injection e2 with e3 e4 _
    rw [e] at e3
    injection e3 with e3
    have := hb (by omega)
    rw [← e3] at this
    exact this

theorem Arr.drewN {α : Type} {val : α → Value} {w : World} {B : Nat} {v : Value} {xs : List α} (h : Arr val w B v xs) (k : Nat) : Arr val (w.drewN k) B v xs := h.keep fun _ _ => rfl

set_option maxHeartbeats 1600000 in
theorem sameInts_eq (v v' : Value) (xs : List Int) (B B' : Nat) (w : World) (h : Arr iv w B v xs) (h' : Arr iv w B' v' xs) (hb : xs.length ≤ 9223372036854775807) :
    Calls Try.prog 23 #[v, v'] w fun e w' => e = .returned (.bool true) ∧ ∃ q, w' = w.drewN q := by
  obtain ⟨A, m, c, rfl⟩ := h.form
  obtain ⟨A', m', c', rfl⟩ := h'.form
  have hm := h.len
  have hm' := h'.len
  obtain rfl : m = m' := by omega
  have hmb : m ≤ 9223372036854775807 := by omega
  clear hm hm'
  go_enter Try.func23, Try.ntmps23
  go_wp2
  go_loopw [5] (fun vi wr => ∃ k q : Nat, k ≤ m ∧ vi = .int .i64 k ∧ wr = w.drewN q) (fun vi _ => m - (intOf vi).toNat)
  case atStart => exact ⟨0, 0, by omega, rfl, rfl⟩
  case round =>
    obtain ⟨k, q, hk, rfl, rfl⟩ := hrel
    by_cases hkm : k < m
    · obtain ⟨b, off, u, rfl, hu, hcell⟩ := h.at_ hkm
      obtain ⟨b', off', u', rfl, hu', hcell'⟩ := h'.at_ hkm
      rw [hu] at hu'
      injection hu' with hu'
      subst hu'
      simp only [iv] at hcell hcell'
      clear hu
      have hk0 : (0 : Int) ≤ (k : Int) := by omega
      go_wp2_with fail
      go_quiet (fail)
      go_wp2
      go_roundw
      case rel => exact ⟨k + 1, q + nq, by omega, value_int (by omega), by first | rfl | exact World.drewN_drewN ..⟩
      case measure => simp [intOf]; omega
    · go_wp2
      go_ret
      exact ⟨rfl, q, rfl⟩

set_option maxHeartbeats 1600000 in
theorem sameTexts_eq (v v' : Value) (xs : List (List UInt8)) (B B' : Nat) (w : World) (h : Arr sv w B v xs) (h' : Arr sv w B' v' xs) (hb : xs.length ≤ 9223372036854775807) :
    Calls Try.prog 25 #[v, v'] w fun e w' => e = .returned (.bool true) ∧ ∃ q, w' = w.drewN q := by
  obtain ⟨A, m, c, rfl⟩ := h.form
  obtain ⟨A', m', c', rfl⟩ := h'.form
  have hm := h.len
  have hm' := h'.len
  obtain rfl : m = m' := by omega
  have hmb : m ≤ 9223372036854775807 := by omega
  clear hm hm'
  go_enter Try.func25, Try.ntmps25
  go_wp2
  go_loopw [5] (fun vi wr => ∃ k q : Nat, k ≤ m ∧ vi = .int .i64 k ∧ wr = w.drewN q) (fun vi _ => m - (intOf vi).toNat)
  case atStart => exact ⟨0, 0, by omega, rfl, rfl⟩
  case round =>
    obtain ⟨k, q, hk, rfl, rfl⟩ := hrel
    by_cases hkm : k < m
    · obtain ⟨b, off, u, rfl, hu, hcell⟩ := h.at_ hkm
      obtain ⟨b', off', u', rfl, hu', hcell'⟩ := h'.at_ hkm
      rw [hu] at hu'
      injection hu' with hu'
      subst hu'
      simp only [sv] at hcell hcell'
      clear hu
      have hk0 : (0 : Int) ≤ (k : Int) := by omega
      go_wp2_with fail
      go_quiet (fail)
      go_wp2
      go_roundw
      case rel => exact ⟨k + 1, q + nq, by omega, value_int (by omega), by first | rfl | exact World.drewN_drewN ..⟩
      case measure => simp [intOf]; omega
    · go_wp2
      go_ret
      exact ⟨rfl, q, rfl⟩

set_option maxHeartbeats 800000 in
theorem behind_any (v v' : Value) (bs bs' : List UInt8) (B B' : Nat) (w : World) (h : Sl w B v bs) (h' : Sl w B' v' bs') (hB : B ≤ w.heap.size) (hB' : B' ≤ w.heap.size) (hl : bs.length ≤ 100000000000) (hl' : bs'.length ≤ 100000000000) :
    Calls Try.prog 10 #[v, v'] w fun e w' => ∃ y, e = .returned y ∧ w'.ownsRow w.heap.size 5 1 y (bs ++ bs').length ((bs ++ bs').map bv) ∧ Below w.heap.size w w' := by
  have ho := own_lit w [] (by simp)
  have g0 := World.grownBy_alloc w (.cells (List.map bv []).toArray 5) none
  have h1 := h.grown g0 hB (by simp)
  have hb0 := below_of_grown g0
  have hbase : w.heap.size ≤ (w.alloc (.cells (List.map bv []).toArray 5)).heap.size := by simp
  have hll : ([] : List UInt8).length + bs.length ≤ 1000000000000 := by simp; omega
  have hlm : ([] ++ bs).length + bs'.length ≤ 1000000000000 := by simp; omega
  go_enter Try.func10, Try.ntmps10
  go_wp2_with (first | (at_builtin; refine append_bytes _ rfl (.tmp 5) (.tmp 6) rfl w.heap.size B _ [] rfl ho bs v rfl h1 hll hbase ?_; intro v1 w1 hown1 hb1; have h2 := (h'.below ((hb0.trans hb1).mono hB')); have hbase1 : w.heap.size ≤ w1.heap.size := Nat.le_trans hbase hb1.size) | (at_builtin; refine append_bytes _ rfl (.tmp 7) (.tmp 8) rfl w.heap.size B' _ ([] ++ bs) rfl hown1 bs' v' rfl h2 hlm hbase1 ?_; intro v2 w2 hown2 hb2))
  go_ret
  exact ⟨_, rfl, hown2, (hb0.trans hb1).trans hb2⟩

def isBool1 (n : Int) (y : Value) : Prop := y = .bool (n == 1)

set_option maxHeartbeats 800000 in
theorem method_bool (g : Nat) (bs : List UInt8) (n : Int) (r : List UInt8) (w : World) (h : Rdr w g bs false) (hlen : bs.length ≤ 1000000000000) (hd : decI 0 1 bs = some (n, r)) :
    Calls Try.prog 28 #[.pointer (some ⟨g, 0, none⟩)] w fun e w' => e = .returned (.bool (n == 1)) ∧ w.grownBy w' (some g) ∧ Rdr w' g r false := by
  go_enter Try.func28, Try.ntmps28
  go_wp2_with fail
  refine (intFrom_dec 0 1 w).mono ?_
  rintro e w1 ⟨fv, rfl, ⟨e1, e2, rfl, c1, c2⟩, hg⟩
  have h2 := h.grown hg
  have HD := Lib.hid hd
  clear hd
  go_wp2_with fail
  refine (readInt_any g _ _ bs 0 1 _ h2 hlen c1 c2).mono ?_
  intro e w2 he
  rw [HD.out] at he
  obtain ⟨hg2, y, rfl, rfl, hr⟩ := he
  go_wp2
  go_ret
  exact ⟨rfl, grown_trans (grown_any _ hg) hg2, hr⟩

end Go.Proofs.Ytefonoaffeahjaa
