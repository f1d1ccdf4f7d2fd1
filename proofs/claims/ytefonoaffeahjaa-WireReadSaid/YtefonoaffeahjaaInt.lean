/-
  The contract of wire.Int over a row of the call's own.
-/
import Derived.Test.YtefonoaffeahjaaNum
import Derived.Test.YtefonoaffeahjaaMem
import Derived.Outline
namespace Go.Proofs.Ytefonoaffeahjaa
open Go.RowKit

/-- The ten cells: those from k on are the last groups; x is still to be written. -/
def Tail (U : Nat) (wr : World) (g k x : Nat) : Prop :=
  ∃ (cs : Array Value) (suf : List UInt8), Box wr g 64 cs ∧ cs.size = 10 ∧ cs.toList.drop k = suf.map bv ∧ hi x ++ suf = enc U ∧ x < 128 ^ k ∧ k < 10

theorem byte_num (x : Nat) (h : x < 256) : Value.int .u8 (x : Int) = bv (UInt8.ofNat x) := by unfold bv; rw [toNat_of x h]

theorem low7 (U : Nat) (h : U < 2 ^ 64) : bits .and .u64 (U : Int) 127 % 256 = ((U % 128 : Nat) : Int) := by rw [u64_and127 U h]; omega
theorem low7h (x : Nat) (h : x < 2 ^ 64) : bits .or .u8 (bits .and .u64 (x : Int) 127 % 256) 128 = ((x % 128 + 128 : Nat) : Int) := by
  rw [low7 x h, u8_or128_right _ (by omega) (by omega)]; omega

theorem Tail.start {U : Nat} (hU : U < 2 ^ 64) (w : World) (v : Value) (hv : v = .int .u8 (bits .and .u64 (U : Int) 127 % 256)) :
    Tail U (w.alloc (.cells #[.int .u8 0, .int .u8 0, .int .u8 0, .int .u8 0, .int .u8 0, .int .u8 0, .int .u8 0, .int .u8 0, .int .u8 0, v] 64)) w.heap.size 9 (U / 128) := by
  refine ⟨_, [UInt8.ofNat (U % 128)], Box.made _ _ _, rfl, ?_, rfl, by omega, by omega⟩
  rw [hv, low7 U hU, byte_num _ (by omega)]
  rfl

theorem Tail.step {U : Nat} {wr : World} {g k x : Nat} (h : Tail U wr g (k + 1) x) (hx : x ≠ 0) (hx2 : x < 2 ^ 64) :
    Tail U (wr.setCell ⟨g, k, none⟩ (.int .u8 (bits .or .u8 (bits .and .u64 (x : Int) 127 % 256) 128))) g k (x / 128) := by
  obtain ⟨cs, suf, hb, hs, hd, he, hl, hk⟩ := h
  refine ⟨_, UInt8.ofNat (x % 128 + 128) :: suf, hb.put k _, by simp [hs], ?_, ?_, by rw [Nat.pow_succ] at hl; omega, by omega⟩
  · have hkl : k < (cs.setIfInBounds k (.int .u8 (bits .or .u8 (bits .and .u64 (x : Int) 127 % 256) 128))).toList.length := by simp [hs]; omega
    rw [List.drop_eq_getElem_cons hkl, List.map_cons, ← hd, ← byte_num _ (by omega), ← low7h x hx2]
    simp [List.drop_set]
  · rw [hi_succ hx, List.append_assoc] at he
    exact he

theorem slice_groups (w : World) (g k : Nat) (hk : k < 10) :
    (Instr.sliceAt 64 (.pointer (some ⟨g, 0, none⟩)) (some (.int .i64 (k : Int))) none none).run Try.prog w = .ok (.slice (some ⟨g, k, none⟩) (10 - k) (10 - k)) w := by
  have ht : Try.prog.underlying 64 = some (.array (Try.prog.arrayLen 64) (Try.prog.elem 64)) := by kernel_rfl
  have hl : Try.prog.arrayLen 64 = 10 := by kernel_rfl
  have hs : (sizeOf (Try.prog.elem 64)).run Try.prog w = .ok 1 w := by kernel_rfl
  rw [run_sliceAt_array_l w _ _ ht .i64 k (by omega) (by rw [hl]; omega), hs, hl]
  simp only [Result.andThen, slicedAt]
  rw [if_neg (by omega)]
  unfold Addr.add
  by_cases h0 : k = 0
  · subst h0; rfl
  · rw [if_neg (by simp; omega)]; simp

theorem Tail.whole {U : Nat} {wr : World} {g k : Nat} (h : Tail U wr g k 0) :
    (enc U).length = 10 - k ∧ k < 10 ∧ ∀ j u, ((enc U).map bv)[j]? = some u → wr.cell? ((⟨g, k, none⟩ : Addr).add j) = some u := by
  obtain ⟨cs, suf, hb, hs, hd, he, hl, hk⟩ := h
  rw [hi_zero, List.nil_append] at he
  subst he
  refine ⟨?_, hk, fun j u hj => ?_⟩
  · have := congrArg List.length hd
    simp [hs] at this
    exact this.symm
  · have e : (⟨g, k, none⟩ : Addr).add j = ⟨g, k + j, none⟩ := by unfold Addr.add; split <;> simp_all
    rw [e, hb.cell, ← Array.getElem?_toList]
    rw [← hd, List.getElem?_drop] at hj
    exact hj

theorem one_byte (bs : List UInt8) : ∀ u ∈ bs.map bv, u.oneCell' = true := by
  intro u hu
  obtain ⟨c, _, rfl⟩ := List.mem_map.1 hu
  rfl

theorem Tail.small {U : Nat} {wr : World} {g k x : Nat} (h : Tail U wr g k x) : x < 2 ^ 64 := by
  obtain ⟨cs, suf, hb, hs, hd, he, hl, hk⟩ := h
  have h9 : 128 ^ k ≤ 128 ^ 9 := Nat.pow_le_pow_right (by omega) (by omega)
  omega

set_option maxHeartbeats 800000 in
theorem int_own (v : Value) (bs : List UInt8) (n : Int) (base : Nat) (w : World) (h0 : -9223372036854775808 ≤ n) (h1 : n ≤ 9223372036854775807)
    (hown : w.ownsRow base 5 1 v bs.length (bs.map bv)) (hbase : base ≤ w.heap.size) (hlen : bs.length + 10 ≤ 1000000000000) :
    Calls Try.prog 21 #[v, .int .i64 n] w fun e w' => ∃ v', e = .returned v' ∧ w'.ownsRow base 5 1 v' (bs ++ encI n).length ((bs ++ encI n).map bv) ∧ Below base w w' := by
  have hz := zig_lt n h0 h1
  obtain ⟨i0, hi, hz0, hz1, hz2⟩ := info_parts info_u8
  go_enter Try.func21, Try.ntmps21
  go_wp2_with (go_at_call 39; refine (fold_any _ _ h0 h1).mono ?_; rintro e w' ⟨rfl, rfl⟩)
  go_loopw [6, 7] (fun u at_ wr => ∃ x k : Nat, u = .int .u64 x ∧ at_ = .int .i64 k ∧ Tail (zig n) wr w.heap.size k x ∧ Below w.heap.size w wr) (fun _ at_ _ => (intOf at_).toNat)
  case atStart => exact ⟨zig n / 128, 9, value_int (by omega), rfl, Tail.start hz w _ rfl, (Below.refl _ _).alloc (Nat.le_refl _) _⟩
  case round =>
    obtain ⟨x, k, rfl, rfl, ht, hb⟩ := hrel
    by_cases hx : x = 0
    · subst hx
      obtain ⟨hlen2, hk, hnews⟩ := ht.whole
      have hownr := own_keep_below hown hb
      have hsl := fun W => slice_groups W w.heap.size k hk
      have HL := Lib.hid hlen2
      clear hlen2
      go_wp2_with (at_builtin; refine wpList_append_own _ rfl (.tmp 29) (.tmp 31) 22 rfl base 5 i0 (.int .u8 0) 1 1 Try.underlying22 hi hz0 hz1 hz2 rfl (by decide) v bs.length (bs.map bv) rfl hownr ⟨w.heap.size, k, none⟩ (10 - k) (10 - k) ((enc (zig n)).map bv) rfl (by rw [List.length_map, HL.out]; omega) hnews (one_byte _) (by unfold maxLen; omega) (by omega) (by have := hb.size; omega) ?_; intro v' w1 hown1 hgrow _)
      go_ret
      refine ⟨_, rfl, ?_, ?_⟩
      · rw [List.length_append, List.map_append]
        unfold encI
        rw [HL.out]
        exact hown1
      · exact below_grown (hb.mono hbase) hgrow hbase fun g hg => (hownr.lt g hg).1
    · have hpos : 0 < x := by omega
      cases k with
      | zero => obtain ⟨_, _, _, _, _, _, hl, _⟩ := ht; simp at hl; omega
      | succ k =>
        have hx2 : x < 2 ^ 64 := ht.small
        have hst := ht.step hx hx2
        obtain ⟨cs, suf, hbox, hs, hd, he, hl, hk⟩ := ht
        have hc := hbox.cell k
        rw [Array.getElem?_eq_getElem (show k < cs.size by omega)] at hc
        have hf := hbox.free k
        clear hd he hl
        go_wp2
        go_roundw
        case rel => exact ⟨x / 128, k, value_int (by omega), rfl, hst, hb.setCell (Nat.le_refl _) _⟩
        case measure => simp [intOf]

end Go.Proofs.Ytefonoaffeahjaa
