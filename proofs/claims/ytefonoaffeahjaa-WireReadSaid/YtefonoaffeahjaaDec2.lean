/-
  The contracts of wire.decodeGroups for every slice, and of the decoder of an integer.
-/
import Derived.Test.YtefonoaffeahjaaDec
namespace Go.Proofs.Ytefonoaffeahjaa
open Go.RowKit

set_option maxHeartbeats 800000 in
theorem groups_empty (a : Addr) (c : Nat) (w : World) :
    Calls Try.prog 51 #[.slice (some a) 0 c] w fun e w' => e = .returned (.tuple #[.int .u64 0, .slice none 0 0, .bool false]) ∧ w = w' := by
  go_enter Try.func51, Try.ntmps51
  go_wp2
  go_ret3
  exact ⟨rfl, rfl⟩

set_option maxHeartbeats 800000 in
theorem groups_128 (b off n c : Nat) (w : World) (hn : 0 < n) (hc : w.cell? ⟨b, off, none⟩ = some (.int .u8 128)) :
    Calls Try.prog 51 #[.slice (some ⟨b, off, none⟩) n c] w fun e w' => e = .returned (.tuple #[.int .u64 0, .slice none 0 0, .bool false]) ∧ w = w' := by
  have hz : ((n : Int) == 0) = false := by simp; omega
  have hpos : (0 : Int) < (n : Int) := by omega
  go_enter Try.func51, Try.ntmps51
  go_wp2
  go_ret3
  exact ⟨rfl, rfl⟩

theorem groups_any (v : Value) (bs : List UInt8) (B : Nat) (w : World) (h : Sl w B v bs) (hlen : bs.length ≤ 1000000000000) :
    Calls Try.prog 51 #[v] w fun e w' => DecEnd w B (dec bs) e ∧ ∃ k, w' = w.drewN k := by
  rcases h with ⟨rfl, rfl⟩ | ⟨a, c, rfl, hl, hb, hc⟩
  · exact (groups_nil w).mono fun e w' ⟨h1, h2⟩ => ⟨h1, 0, h2.symm⟩
  · cases bs with
    | nil => exact (groups_empty a c w).mono fun e w' ⟨h1, h2⟩ => ⟨h1, 0, h2.symm⟩
    | cons c0 t =>
      obtain ⟨b, off, spot⟩ := a
      have hc0 := hc 0 c0 rfl
      have hspot : spot = none := by simpa [Addr.add] using World.cell?_spot hc0
      subst hspot
      have hcell : ∀ i u, (c0 :: t)[i]? = some u → w.cell? ⟨b, off + i, none⟩ = some (bv u) := fun i u hu => by
        have e : (⟨b, off, none⟩ : Addr).add i = ⟨b, off + i, none⟩ := by unfold Addr.add; split <;> simp_all
        rw [← e]; exact hc i u hu
      by_cases h8 : c0 = 128
      · subst h8
        refine (groups_128 b off _ c w (by simp) (by simpa [Addr.add, bv] using hc0)).mono fun e w' ⟨h1, h2⟩ => ⟨?_, 0, h2.symm⟩
        have hd : dec (128 :: t) = none := by simp [dec]
        rw [hd]; exact h1
      · exact groups_some b off _ c (c0 :: t) B w rfl hl (hb (by simp)) hlen hcell (by simp) (by simpa using h8)

/-- What a decoder hands back. -/
def DEnd {α : Type} (val : α → Value → Prop) (w : World) (B : Nat) (o : Option (α × List UInt8)) (e : Ending) : Prop :=
  match o with
  | some (x, r) => ∃ y v', e = .returned (.tuple #[y, v', .bool true]) ∧ val x y ∧ Sl w B v' r
  | none => ∃ y v', e = .returned (.tuple #[y, v', .bool false])

def isInt (n : Int) (y : Value) : Prop := y = .int .i64 n

set_option maxHeartbeats 800000 in
theorem intFrom_any (lo hi : Int) (w : World) :
    Calls Try.prog 42 #[.int .i64 lo, .int .i64 hi] w fun e w' => e = .returned (.func (.func 50) #[] #[.pointer (some ⟨w.heap.size, 0, none⟩), .pointer (some ⟨w.heap.size + 1, 0, none⟩)]) ∧ w' = (w.alloc (.cells #[.int .i64 lo] 3)).alloc (.cells #[.int .i64 hi] 3) := by
  have hmf : ∀ (fn : Fn) (first cap : Array Value) (w : World), (Instr.makeFunc fn first cap).run Try.prog w = .ok (.func fn first cap) w := fun _ _ _ _ => rfl
  go_enter Try.func42, Try.ntmps42
  go_wp2
  go_ret
  exact ⟨rfl, rfl⟩

set_option maxHeartbeats 800000 in
theorem intDec_none (v : Value) (bs : List UInt8) (B g1 g2 : Nat) (w : World) (h : Sl w B v bs) (hlen : bs.length ≤ 1000000000000) (hd : dec bs = none) :
    Calls Try.prog 50 #[v, .pointer (some ⟨g1, 0, none⟩), .pointer (some ⟨g2, 0, none⟩)] w fun e w' => DEnd isInt w B none e ∧ ∃ k, w' = w.drewN k := by
  go_enter Try.func50, Try.ntmps50
  go_wp2_with fail
  refine (groups_any v bs B _ h hlen).mono ?_
  rintro e w1 ⟨he, k, rfl⟩
  rw [hd] at he
  obtain rfl := he
  go_wp2_with fail
  refine (unfold_any 0 _ (by omega)).mono ?_
  rintro e w1 ⟨rfl, rfl⟩
  go_wp2_with fail
  go_quiet (fail)
  go_wp2
  go_ret3
  exact ⟨⟨_, _, rfl⟩, k + nq, World.drewN_drewN ..⟩

set_option maxHeartbeats 800000 in
theorem intDec_some (v : Value) (bs r : List UInt8) (u B g1 g2 : Nat) (lo hi : Int) (w : World) (h : Sl w B v bs) (hlen : bs.length ≤ 1000000000000) (hd : dec bs = some (u, r))
    (h1 : w.cell? ⟨g1, 0, none⟩ = some (.int .i64 lo)) (h2 : w.cell? ⟨g2, 0, none⟩ = some (.int .i64 hi)) :
    Calls Try.prog 50 #[v, .pointer (some ⟨g1, 0, none⟩), .pointer (some ⟨g2, 0, none⟩)] w fun e w' => DEnd isInt w B (decI lo hi bs) e ∧ ∃ k, w' = w.drewN k := by
  have hu := (dec_canon hd).2
  have HD : Hid (decI lo hi bs = if lo ≤ unzig u ∧ unzig u ≤ hi then some (unzig u, r) else none) := by unfold decI; rw [hd]; exact rfl
  go_enter Try.func50, Try.ntmps50
  go_wp2_with fail
  refine (groups_any v bs B _ h hlen).mono ?_
  rintro e w1 ⟨he, k, rfl⟩
  rw [hd] at he
  obtain ⟨v', rfl, hv'⟩ := he
  clear hd
  go_wp2_with fail
  refine (unfold_any u _ hu).mono ?_
  rintro e w1 ⟨rfl, rfl⟩
  by_cases hlo : lo ≤ unzig u
  · by_cases hhi : unzig u ≤ hi
    · go_wp2_with fail
      go_quiet (fail)
      go_wp2
      go_ret3
      refine ⟨?_, k + nq, World.drewN_drewN ..⟩
      rw [HD.out, if_pos ⟨hlo, hhi⟩]
      exact ⟨_, _, rfl, rfl, hv'⟩
    · have hf : decide (unzig u ≤ hi) = false := decide_eq_false hhi
      go_wp2_with fail
      go_quiet (fail)
      go_wp2
      go_ret3
      refine ⟨?_, k + nq, World.drewN_drewN ..⟩
      rw [HD.out, if_neg (fun h => by omega)]
      exact ⟨_, _, rfl⟩
  · have hf : decide (lo ≤ unzig u) = false := decide_eq_false hlo
    go_wp2_with fail
    go_quiet (fail)
    go_wp2
    go_ret3
    refine ⟨?_, k + nq, World.drewN_drewN ..⟩
    rw [HD.out, if_neg (fun h => by omega)]
    exact ⟨_, _, rfl⟩

theorem intDec_any (v : Value) (bs : List UInt8) (B g1 g2 : Nat) (lo hi : Int) (w : World) (h : Sl w B v bs) (hlen : bs.length ≤ 1000000000000)
    (h1 : w.cell? ⟨g1, 0, none⟩ = some (.int .i64 lo)) (h2 : w.cell? ⟨g2, 0, none⟩ = some (.int .i64 hi)) :
    Calls Try.prog 50 #[v, .pointer (some ⟨g1, 0, none⟩), .pointer (some ⟨g2, 0, none⟩)] w fun e w' => DEnd isInt w B (decI lo hi bs) e ∧ ∃ k, w' = w.drewN k := by
  cases hd : dec bs with
  | none =>
    have e : decI lo hi bs = none := by unfold decI; rw [hd]
    rw [e]
    exact intDec_none v bs B g1 g2 w h hlen hd
  | some p => exact intDec_some v bs p.2 p.1 B g1 g2 lo hi w h hlen hd h1 h2

end Go.Proofs.Ytefonoaffeahjaa
