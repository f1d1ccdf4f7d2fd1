/-
  The contracts of More and Of.
-/
import Derived.Test.YtjmmhgdafjdmdaaTab
namespace Go.Proofs.Ytjmmhgdafjdmdaa
open Go.RowKit

theorem add_plain (b o i : Nat) : (⟨b, o, none⟩ : Addr).add i = ⟨b, o + i, none⟩ := by unfold Addr.add; split <;> simp_all

theorem Sl.split {w : World} {B : Nat} {v : Value} {bs : List UInt8} (h : Sl w B v bs) :
    (bs = [] ∧ ∃ A c, v = .slice A 0 c) ∨ (0 < bs.length ∧ ∃ b off c, v = .slice (some ⟨b, off, none⟩) bs.length c ∧ bs.length ≤ c ∧ b < B ∧ ∀ i u, bs[i]? = some u → w.cell? ⟨b, off + i, none⟩ = some (bv u)) := by
  rcases h with ⟨rfl, rfl⟩ | ⟨a, c, rfl, hl, hb, hc⟩
  · exact .inl ⟨rfl, _, _, rfl⟩
  · cases bs with
    | nil => exact .inl ⟨rfl, _, _, rfl⟩
    | cons x l =>
      refine .inr ⟨by simp, ?_⟩
      have h0 := hc 0 x rfl
      have hspot : (a.add 0).spot = none := World.cell?_spot h0
      have ha : a = ⟨a.block, a.off, none⟩ := by
        cases a with
        | mk b o s =>
          cases s with
          | none => rfl
          | some s => unfold Addr.add at hspot; simp at hspot
      have hb' := hb (by simp)
      refine ⟨a.block, a.off, c, by rw [← ha], hl, hb', fun i u hu => ?_⟩
      have := hc i u hu
      rw [ha] at this
      rwa [add_plain] at this

theorem u8_xor (a b : Nat) (ha : a < 256) (hb : b < 256) : bits .xor .u8 (a : Int) (b : Int) = ((a ^^^ b : Nat) : Int) := by
  have h : a ^^^ b < 2 ^ 8 := Nat.xor_lt_two_pow (by omega) (by omega)
  show IntKind.u8.wrap ((BitVec.ofInt 8 (a : Int) ^^^ BitVec.ofInt 8 (b : Int)).toNat : Int) = _
  rw [BitVec.ofInt_natCast, BitVec.ofInt_natCast, BitVec.toNat_xor, BitVec.toNat_ofNat, BitVec.toNat_ofNat, Nat.mod_eq_of_lt (show a < 2 ^ 8 by omega), Nat.mod_eq_of_lt (show b < 2 ^ 8 by omega)]
  exact wraps_u8 _ (by omega) (by omega)

theorem u32_not (a : BitVec 32) : bits .xor .u32 IntKind.u32.max (a.toNat : Int) = ((inv a).toNat : Int) := by
  have e : IntKind.u32.max = ((~~~ 0#32 : BitVec 32).toNat : Int) := by decide
  rw [e, u32_xor, inv_eq, not_xor a, BitVec.xor_comm]

/-- A step by the table. -/
theorem tab_step (r : BitVec 32) (c : UInt8) : shn 8 (r ^^^ w8 c) = (r >>> 8) ^^^ tabAt ((r.toNat % 256) ^^^ c.toNat) := by
  have hc := c.toNat_lt
  have hl := r.isLt
  rw [BitVec.xor_comm, shn8_split]
  have e1 : w8 c ^^^ BitVec.ofNat 32 (r.toNat % 256) = BitVec.ofNat 32 ((r.toNat % 256) ^^^ c.toNat) := by
    apply BitVec.eq_of_toNat_eq
    unfold w8
    have h3 : (r.toNat % 256) ^^^ c.toNat < 2 ^ 32 := Nat.xor_lt_two_pow (by omega) (by omega)
    rw [BitVec.toNat_xor, BitVec.toNat_ofNat, BitVec.toNat_ofNat, BitVec.toNat_ofNat, Nat.mod_eq_of_lt h3, Nat.mod_eq_of_lt (by omega), Nat.mod_eq_of_lt (by omega), Nat.xor_comm]
  have e2 : BitVec.ofNat 32 (r.toNat / 256) = r >>> 8 := by
    apply BitVec.eq_of_toNat_eq
    rw [BitVec.toNat_ofNat, BitVec.toNat_ushiftRight, Nat.shiftRight_eq_div_pow, Nat.mod_eq_of_lt (by omega)]
  rw [e1, e2, BitVec.xor_comm]
  rfl

theorem eighth (r : BitVec 32) : (r.toNat : Int) / (256 : Int) = ((r >>> 8).toNat : Int) := by
  rw [BitVec.toNat_ushiftRight, Nat.shiftRight_eq_div_pow]; rfl
theorem shr_eq (r : BitVec 32) (n : Nat) : (r.toNat : Int) >>> n = ((r >>> n).toNat : Int) := by
  rw [BitVec.toNat_ushiftRight]; rfl

theorem reg_snoc {bs : List UInt8} {k : Nat} {c : UInt8} (h : BitVec 32) (hk : bs[k]? = some c) : reg h (bs.take (k + 1)) = shn 8 (reg h (bs.take k) ^^^ w8 c) := by
  have e : bs.take (k + 1) = bs.take k ++ [c] := by
    obtain ⟨hl, he⟩ := List.getElem?_eq_some_iff.1 hk
    rw [List.take_succ_eq_append_getElem hl, he]
  rw [e, reg_append]; rfl

theorem below_two {w w1 : World} {o : Obj} (h : Below w.heap.size w w1) (cs : Array Value) : Below w.heap.size w ((w1.alloc o).setRow w1.heap.size cs) :=
  below_row (h.alloc h.size o) h.size cs

set_option maxRecDepth 100000 in
set_option maxHeartbeats 1600000 in
theorem more_any (r : BitVec 32) (v : Value) (bs : List UInt8) (B : Nat) (w : World) (hs : Sl w B v bs) (hB : B ≤ w.heap.size) (hlen : bs.length ≤ 1000000000000) :
    Calls Try.prog 13 #[.int .u32 (r.toNat : Int), v] w fun e w' => e = .returned (.int .u32 ((more r bs).toNat : Int)) ∧ Below w.heap.size w w' := by
  have hz := zero_256
  have hnot := u32_not r
  rcases hs.split with ⟨rfl, A, c, rfl⟩ | ⟨hpos, b, off, c, rfl, hc, hb, hcell⟩
  · clear hs
    have hnot2 := u32_not (inv r)
    go_enter Try.func13, Try.ntmps13
    go_wp2_with (first | (go_at_call 27; refine (steps_any _).mono ?_; rintro e w1 ⟨cs, rfl, ht, hb1⟩) | (refine wpList_store_row rfl 46 (.tmp 5) (.tmp 9) rfl w1.heap.size cs rfl rfl 46 (zeros 256) (Box.made _ _ _) (by rw [size_256, ht.1]) (by rw [zeros_size, ht.1]) (TabBy.one ht) ?_))
    go_loop [6, 14] (fun x i => x = .int .u32 ((inv r).toNat : Int) ∧ i = .int .i64 0) (fun _ _ => 0)
    case atStart => exact ⟨rfl, rfl⟩
    case round =>
      obtain ⟨rfl, rfl⟩ := hrel
      go_wp2
      go_ret
      exact ⟨rfl, below_two hb1 cs⟩
  · have HC := Lib.hid hcell
    clear hcell hs
    have hpos' : (0 : Int) < (bs.length : Int) := by omega
    go_enter Try.func13, Try.ntmps13
    go_wp2_with (first | (go_at_call 27; refine (steps_any _).mono ?_; rintro e w1 ⟨cs, rfl, ht, hb1⟩) | (refine wpList_store_row rfl 46 (.tmp 5) (.tmp 9) rfl w1.heap.size cs rfl rfl 46 (zeros 256) (Box.made _ _ _) (by rw [size_256, ht.1]) (by rw [zeros_size, ht.1]) (TabBy.one ht) ?_))
    have hbel := below_two (o := .cells (zeros 256) 46) hb1 cs
    have hbox : Box ((w1.alloc (.cells (zeros 256) 46)).setRow w1.heap.size cs) w1.heap.size 46 cs := (Box.made w1 46 (zeros 256)).row cs
    clear hz hnot
    go_loop [6, 14] (fun x i => ∃ k : Nat, k ≤ bs.length ∧ x = .int .u32 ((reg (inv r) (bs.take k)).toNat : Int) ∧ i = .int .i64 (k : Int)) (fun _ i => bs.length - (intOf i).toNat)
    case atStart => exact ⟨0, by omega, rfl, rfl⟩
    case round =>
      obtain ⟨k, hk, rfl, rfl⟩ := hrel
      by_cases hlt : k < bs.length
      · obtain ⟨u, hu⟩ : ∃ u, bs[k]? = some u := ⟨_, List.getElem?_eq_getElem hlt⟩
        have hcu := (hbel.cell (p := ⟨b, off + k, none⟩) (by simp; omega)).trans (HC.out k u hu)
        have hsn := reg_snoc (inv r) hu
        rw [tab_step] at hsn
        have hu8 := u.toNat_lt
        obtain ⟨R, hR⟩ : ∃ R, R = reg (inv r) (bs.take k) := ⟨_, rfl⟩
        rw [← hR] at hsn ⊢
        have hRl := R.isLt
        obtain ⟨x, hx⟩ : ∃ x, x = (R.toNat % 256) ^^^ u.toNat := ⟨_, rfl⟩
        have hx8 : x < 256 := by rw [hx]; exact Nat.xor_lt_two_pow (n := 8) (by omega) (by omega)
        have hbx : bits .xor .u8 ((R.toNat : Int) % 256) (u.toNat : Int) = (x : Int) := by rw [hx]; exact u8_xor (R.toNat % 256) u.toNat (by omega) (by omega)
        rw [← hx] at hsn
        have hcx := hbox.cell x
        rw [ht.2 x hx8 (Nat.mod_one x)] at hcx
        have HS := Lib.hid hsn
        have HX := Lib.hid hx
        have HR := Lib.hid hR
        have HT := Lib.hid ht
        have HU := Lib.hid hu
        have h8 : bits .xor .u32 ((R.toNat : Int) / (256 : Int)) ((tabAt x).toNat : Int) = ((reg (inv r) (bs.take (k + 1))).toNat : Int) := by rw [eighth, u32_xor, hsn]
        have H8 := Lib.hid h8
        clear hsn hx hR hu ht h8
        simp only [bv] at hcu
        go_wp2
        go_round
        case rel => exact ⟨k + 1, by omega, by rw [H8.out], by go_num⟩
        case measure => simp [intOf]; omega
      · obtain rfl : k = bs.length := by omega
        have hnot2 := u32_not (reg (inv r) bs)
        rw [List.take_of_length_le (Nat.le_refl _)]
        go_wp2
        go_ret
        exact ⟨rfl, hbel⟩

set_option maxHeartbeats 800000 in
theorem of_any (v : Value) (bs : List UInt8) (B : Nat) (w : World) (hs : Sl w B v bs) (hB : B ≤ w.heap.size) (hlen : bs.length ≤ 1000000000000) :
    Calls Try.prog 11 #[v] w fun e w' => e = .returned (.int .u32 ((crc bs).toNat : Int)) ∧ Below w.heap.size w w' := by
  go_enter Try.func11, Try.ntmps11
  go_wp2_with (go_at_call 13; refine (more_any 0#32 _ _ _ _ hs hB hlen).mono ?_; rintro e w1 ⟨rfl, hb1⟩)
  go_ret
  exact ⟨rfl, hb1⟩

end Go.Proofs.Ytjmmhgdafjdmdaa
