/-
  The contract of wire.decodeGroups.
-/
import Derived.Test.YtefonoaffeahjaaText
import Derived.Deep.QuietTactic
import Derived.BigQuiet
namespace Go.Proofs.Ytefonoaffeahjaa
open Go.RowKit

/-- What decodeGroups hands back. -/
def DecEnd (w : World) (B : Nat) (o : Option (Nat × List UInt8)) (e : Ending) : Prop :=
  match o with
  | some (u, r) => ∃ v', e = .returned (.tuple #[.int .u64 (u : Int), v', .bool true]) ∧ Sl w B v' r
  | none => e = .returned (.tuple #[.int .u64 0, .slice none 0 0, .bool false])

set_option maxHeartbeats 800000 in
theorem groups_nil (w : World) :
    Calls Try.prog 51 #[.slice none 0 0] w fun e w' => e = .returned (.tuple #[.int .u64 0, .slice none 0 0, .bool false]) ∧ w = w' := by
  go_enter Try.func51, Try.ntmps51
  go_wp2
  go_ret3
  exact ⟨rfl, rfl⟩

theorem decL_at {bs : List UInt8} {k x : Nat} {c : UInt8} (hk : bs[k]? = some c) :
    decL x (bs.drop k) = if 2 ^ 57 ≤ x then none else if c.toNat < 128 then some (x * 128 + c.toNat, bs.drop (k + 1)) else decL (x * 128 + c.toNat % 128) (bs.drop (k + 1)) := by
  obtain ⟨hl, he⟩ := List.getElem?_eq_some_iff.1 hk
  rw [List.drop_eq_getElem_cons hl, he]
  rfl

theorem sl_tail {w : World} {B b off n k c : Nat} {bs : List UInt8} (o' : Nat) (hn : bs.length = n) (hk : k ≤ n) (hc : n - k ≤ c) (hb : b < B) (ho : o' = off + k ∨ n = k)
    (hcell : ∀ i u, bs[i]? = some u → w.cell? ⟨b, off + i, none⟩ = some (bv u)) : Sl w B (.slice (some ⟨b, o', none⟩) (n - k) c) (bs.drop k) := by
  have hl : (bs.drop k).length = n - k := by rw [List.length_drop]; omega
  refine .inr ⟨⟨b, o', none⟩, c, by rw [hl], by omega, fun _ => hb, fun i u hu => ?_⟩
  have hi : i < (bs.drop k).length := (List.getElem?_eq_some_iff.1 hu).1
  rw [List.getElem?_drop] at hu
  have e : (⟨b, o', none⟩ : Addr).add i = ⟨b, off + (k + i), none⟩ := by
    rcases ho with rfl | h
    · unfold Addr.add; split <;> simp_all [Nat.add_assoc]
    · omega
  rw [e]
  exact hcell _ u hu

theorem join7 (x c : Nat) (hx : x < 2 ^ 57) (hc : c < 256) : bits .or .u64 ((x : Int) * 128) (IntKind.u64.wrap (bits .and .u8 (c : Int) 127)) = ((x * 128 + c % 128 : Nat) : Int) := by
  rw [u8_and127 c hc, wraps_u64 _ (by omega) (by omega)]
  exact u64_join x (c % 128) hx (by omega)

theorem test7 (c : Nat) (hc : c < 256) : (bits .and .u8 (c : Int) 128 == 0) = decide (c < 128) := by
  rw [u8_and128 c hc]
  by_cases h : c < 128 <;> simp [h]

set_option maxHeartbeats 800000 in
theorem groups_some (b off n c : Nat) (bs : List UInt8) (B : Nat) (w : World) (hn : bs.length = n) (hc : n ≤ c) (hb : b < B) (hlen : n ≤ 1000000000000)
    (hcell : ∀ i u, bs[i]? = some u → w.cell? ⟨b, off + i, none⟩ = some (bv u)) (hne : 0 < n) (h128 : bs[0]? ≠ some 128) :
    Calls Try.prog 51 #[.slice (some ⟨b, off, none⟩) n c] w fun e w' => DecEnd w B (dec bs) e ∧ ∃ k, w' = w.drewN k := by
  have HD : Hid (dec bs = decL 0 (bs.drop 0)) := by
    cases bs with
    | nil => simp at hn; omega
    | cons c0 t => exact dec_of_ne (by simpa using h128)
  obtain ⟨c0, hc1⟩ : ∃ c0, bs[0]? = some c0 := ⟨bs[0]'(by omega), List.getElem?_eq_getElem (by omega)⟩
  have hc0 := hcell 0 c0 hc1
  have hz : ((n : Int) == 0) = false := by simp; omega
  have h8 : ((c0.toNat : Int) == 128) = false := by
    have : c0.toNat ≠ 128 := by
      intro h; rw [hc1] at h128; apply h128
      rw [show c0 = 128 from UInt8.toNat_inj.1 h]
    simp; omega
  have hpos : (0 : Int) < (n : Int) := by omega
  simp only [bv, Nat.add_zero] at hc0
  have HN := Lib.hid hn
  clear hn hc1 h128
  have HC := Lib.hid hcell
  clear hcell
  go_enter Try.func51, Try.ntmps51
  go_wp2
  clear hc0 h8 hpos
  go_loop [2, 18] (fun u i => ∃ k x : Nat, k ≤ n ∧ u = .int .u64 x ∧ i = .int .i64 k ∧ x < 2 ^ 64 ∧ Hid (dec bs = decL x (bs.drop k))) (fun _ i => n - (intOf i).toNat)
  case atStart => exact ⟨0, 0, by omega, rfl, rfl, by omega, HD⟩
  case round =>
    obtain ⟨k, x, hk, rfl, rfl, hx, HR⟩ := hrel
    by_cases hkn : k < n
    · obtain ⟨ck, hck⟩ : ∃ ck, bs[k]? = some ck := ⟨bs[k]'(by have := HN.out; omega), List.getElem?_eq_getElem (by have := HN.out; omega)⟩
      have hcell := HC.out k ck hck
      have HE := Lib.hid (decL_at (x := x) hck)
      have hclt := ck.toNat_lt
      simp only [bv] at hcell
      clear hck
      by_cases h57 : 2 ^ 57 ≤ x
      · have ht : (((x : Int) / 144115188075855872) != 0) = true := by simp; omega
        go_wp2
        go_ret3
        refine ⟨?_, 0, rfl⟩
        rw [HR.out, HE.out, if_pos h57]
        exact rfl
      · have ht : (((x : Int) / 144115188075855872) != 0) = false := by simp; omega
        have HJ := Lib.hid (join7 x ck.toNat (by omega) hclt)
        have ht7 := test7 ck.toNat hclt
        by_cases hc7 : ck.toNat < 128
        · rw [decide_eq_true hc7] at ht7
          go_wp2
          have hb0 : (0 : Int) ≤ (k : Int) + 1 := by omega
          have hb1 : (k : Int) + 1 ≤ (n : Int) := by omega
          go_quiet (fail)
          have HO := Lib.hid hb0
          clear hb0 hb1
          go_wp2
          all_goals
            go_ret3
            refine ⟨?_, nq, rfl⟩
            rw [HR.out, HE.out, if_neg h57, if_pos hc7]
            have hj := HJ.out
            rw [Nat.mod_eq_of_lt hc7] at hj
            refine ⟨_, congrArg (fun x => Ending.returned (.tuple #[.int .u64 x, _, .bool true])) hj, ?_⟩
            exact sl_tail _ HN.out (by omega) (by omega) hb (by omega) HC.out
        · rw [decide_eq_false hc7] at ht7
          go_wp2
          go_round
          case rel => exact ⟨k + 1, x * 128 + ck.toNat % 128, by omega, value_int HJ.out, value_int (by omega), by omega, by rw [HR.out, HE.out, if_neg h57, if_neg hc7]; exact rfl⟩
          case measure => simp [intOf]; omega
    · go_wp2
      go_ret3
      refine ⟨?_, 0, rfl⟩
      have hn := HN.out
      rw [HR.out, List.drop_of_length_le (by omega)]
      exact rfl
end Go.Proofs.Ytefonoaffeahjaa
