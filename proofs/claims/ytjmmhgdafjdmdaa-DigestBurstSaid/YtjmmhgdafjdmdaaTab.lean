/-
  The table of byteSteps: its contract.
-/
import Derived.Test.YtjmmhgdafjdmdaaNum
import Derived.Test.YtjmmhgdafjdmdaaMem
namespace Go.Proofs.Ytjmmhgdafjdmdaa
open Go.RowKit

/-- n cells of 32 bits, all 0. -/
def zeros (n : Nat) : Array Value := Array.replicate n (.int .u32 0)
theorem zeros_size (n : Nat) : (zeros n).size = n := by simp [zeros]
theorem zero_256 (w : World) : (zeroValue 46).run Try.prog w = .ok (.agg (zeros 256)) w := by kernel_rfl
theorem zero_mat (w : World) : (zeroValue 52).run Try.prog w = .ok (.agg (zeros 32)) w := by kernel_rfl
theorem size_256 : (Try.prog.info? 46).map (·.size) = some 256 := by kernel_rfl
theorem size_mat : (Try.prog.info? 52).map (·.size) = some 32 := by kernel_rfl

theorem Box.row {w : World} {g : Nat} {t : TypeId} {old : Array Value} (h : Box w g t old) (cs : Array Value) : Box (w.setRow g cs) g t cs := setRow_heap w g old cs t (0, 0) h
theorem below_row {B : Nat} {a w : World} (h : Below B a w) {g : Nat} (hg : B ≤ g) (cs : Array Value) : Below B a (w.setRow g cs) :=
  ⟨h.os, h.tape, h.output, by rw [size_setRow]; exact h.size, fun i hi => (setRow_other w g i cs (by omega)).trans (h.block i hi)⟩

theorem Box.put_other {w : World} {g : Nat} {t : TypeId} {cs : Array Value} (h : Box w g t cs) (p : Addr) (v : Value) (hne : g ≠ p.block) : Box (w.setCell p v) g t cs := (Below.heap_setCell w p v g hne).trans h

/-- What the eight shifts make of a byte. -/
def tabAt (i : Nat) : BitVec 32 := shn 8 (BitVec.ofNat 32 i)

/-- The cells hold the table at every multiple of D. -/
def TabBy (D : Nat) (cs : Array Value) : Prop := cs.size = 256 ∧ ∀ i, i < 256 → i % D = 0 → cs[i]? = some (.int .u32 ((tabAt i).toNat : Int))

theorem TabBy.one {cs : Array Value} (h : TabBy 1 cs) : cs.all (·.oneCell') = true := by
  rw [Array.all_eq_true]
  intro i hi
  have := h.2 i (by rw [h.1] at hi; exact hi) (Nat.mod_one i)
  rw [Array.getElem?_eq_getElem hi] at this
  simp only [Option.some.injEq] at this
  rw [this]
  rfl

theorem TabBy.start : TabBy 256 (zeros 256) := by
  refine ⟨zeros_size _, fun i hi h => ?_⟩
  obtain rfl : i = 0 := by omega
  have : tabAt 0 = 0#32 := by decide
  rw [this]
  simp [zeros]

theorem tab_pow : ∀ t : Fin 8, shn (t.val + 1) 1#32 = tabAt (2 ^ (7 - t.val)) := by decide +kernel

theorem tab_add (b i : Nat) (hb : b = 1 ∨ b = 2 ∨ b = 4 ∨ b = 8 ∨ b = 16 ∨ b = 32 ∨ b = 64 ∨ b = 128) (hi : i < 256) (hd : i % (2 * b) = 0) : tabAt (i + b) = tabAt i ^^^ tabAt b := by
  have key : ∀ j : Fin 8, ∀ i : Fin 256, i.val % (2 * 2 ^ j.val) = 0 → BitVec.ofNat 32 (i.val + 2 ^ j.val) = BitVec.ofNat 32 i.val ^^^ BitVec.ofNat 32 (2 ^ j.val) := by decide +kernel
  obtain ⟨j, hj⟩ : ∃ j : Fin 8, b = 2 ^ j.val := by
    rcases hb with rfl | rfl | rfl | rfl | rfl | rfl | rfl | rfl
    · exact ⟨0, rfl⟩
    · exact ⟨1, rfl⟩
    · exact ⟨2, rfl⟩
    · exact ⟨3, rfl⟩
    · exact ⟨4, rfl⟩
    · exact ⟨5, rfl⟩
    · exact ⟨6, rfl⟩
    · exact ⟨7, rfl⟩
  subst hj
  unfold tabAt
  rw [key j ⟨i, hi⟩ hd, shn_xor]

/-- Round t of the outer loop: b is the bit, D the grain of what is done. -/
def Grain (t b D : Nat) : Prop := t ≤ 8 ∧ ((t = 8 ∧ b = 0 ∧ D = 1) ∨ (t < 8 ∧ b = 2 ^ (7 - t) ∧ D = 2 * b))

theorem Grain.start : Grain 0 128 256 := ⟨by omega, .inr ⟨by omega, rfl, rfl⟩⟩
theorem Grain.pow {t b D : Nat} (h : Grain t b D) (hb : 0 < b) : (b = 1 ∨ b = 2 ∨ b = 4 ∨ b = 8 ∨ b = 16 ∨ b = 32 ∨ b = 64 ∨ b = 128) ∧ D = 2 * b ∧ shn (t + 1) 1#32 = tabAt b ∧ Grain (t + 1) (b / 2) b := by
  obtain ⟨h8, ⟨_, h0, _⟩ | ⟨h1, h2, h3⟩⟩ := h
  · omega
  · have hp := tab_pow ⟨t, h1⟩
    simp only at hp
    rw [← h2] at hp
    have h7 : t = 0 ∨ t = 1 ∨ t = 2 ∨ t = 3 ∨ t = 4 ∨ t = 5 ∨ t = 6 ∨ t = 7 := by omega
    refine ⟨?_, h3, hp, ?_⟩
    · rcases h7 with rfl | rfl | rfl | rfl | rfl | rfl | rfl | rfl <;> simp at h2 <;> omega
    · subst h2
      unfold Grain
      rcases h7 with rfl | rfl | rfl | rfl | rfl | rfl | rfl | rfl <;> simp
theorem Grain.done {t D : Nat} (h : Grain t 0 D) : D = 1 := by
  obtain ⟨h8, ⟨_, h0, h1⟩ | ⟨h1, h2, h3⟩⟩ := h
  · exact h1
  · have := Nat.two_pow_pos (7 - t); omega

/-- Inside a round: all below i at the grain b, all at the grain 2 b. -/
def TabTo (b i : Nat) (cs : Array Value) : Prop := TabBy (2 * b) cs ∧ i % (2 * b) = 0 ∧ i ≤ 256 ∧ ∀ j, j < i → j % b = 0 → cs[j]? = some (.int .u32 ((tabAt j).toNat : Int))

theorem TabTo.start {b : Nat} {cs : Array Value} (h : TabBy (2 * b) cs) : TabTo b 0 cs := ⟨h, by simp, by omega, fun j hj => by omega⟩
theorem TabTo.done {b i : Nat} {cs : Array Value} (h : TabTo b i cs) (hi : 256 ≤ i) : TabBy b cs := ⟨h.1.1, fun j hj hd => h.2.2.2 j (by omega) hd⟩
theorem TabTo.step {b i : Nat} {cs : Array Value} (hb : b = 1 ∨ b = 2 ∨ b = 4 ∨ b = 8 ∨ b = 16 ∨ b = 32 ∨ b = 64 ∨ b = 128) (h : TabTo b i cs) (hi : i < 256) :
    i + b < 256 ∧ cs[i]? = some (.int .u32 ((tabAt i).toNat : Int)) ∧ TabTo b (i + 2 * b) (cs.setIfInBounds (i + b) (.int .u32 ((tabAt i ^^^ tabAt b).toNat : Int))) := by
  obtain ⟨⟨hs, hr⟩, hd, hle, hdone⟩ := h
  have hib : i + b < 256 ∧ i + 2 * b ≤ 256 := by rcases hb with rfl | rfl | rfl | rfl | rfl | rfl | rfl | rfl <;> omega
  refine ⟨hib.1, hr i hi hd, ⟨by simp [hs], fun j hj hjd => ?_⟩, by rw [Nat.add_mod_right]; exact hd, hib.2, fun j hj hjd => ?_⟩
  · have hne : i + b ≠ j := by
      intro e; subst e
      rcases hb with rfl | rfl | rfl | rfl | rfl | rfl | rfl | rfl <;> omega
    rw [Array.getElem?_setIfInBounds_ne hne]
    exact hr j hj hjd
  · by_cases hj1 : i + b = j
    · subst hj1
      rw [Array.getElem?_setIfInBounds_self, if_pos (by omega), tab_add b i hb hi hd]
    · rw [Array.getElem?_setIfInBounds_ne hj1]
      by_cases hj2 : j < i
      · exact hdone j hj2 hjd
      · have : j = i := by rcases hb with rfl | rfl | rfl | rfl | rfl | rfl | rfl | rfl <;> omega
        subst this
        exact hr j hi hd

set_option maxRecDepth 100000 in
set_option maxHeartbeats 1600000 in
theorem steps_any (w : World) :
    Calls Try.prog 27 #[] w fun e w' => ∃ cs, e = .returned (.agg cs) ∧ TabBy 1 cs ∧ Below w.heap.size w w' := by
  have hz := zero_256
  go_enter Try.func27, Try.ntmps27
  go_wp2
  clear hz
  go_loopw [2, 3, 4] (fun added bit i wr => ∃ t b D cs, Grain t b D ∧ added = .int .u32 ((shn t 1#32).toNat : Int) ∧ bit = .int .i64 (b : Int) ∧ TabBy D cs ∧ Box wr w.heap.size 46 (zeros 256) ∧ Box wr (w.heap.size + 1) 46 cs ∧ Below w.heap.size w wr) (fun _ bit _ _ => (intOf bit).toNat)
  case atStart => exact ⟨0, 128, 256, _, Grain.start, rfl, rfl, TabBy.start, (Box.made _ _ _).alloc _, by have := Box.made (w.alloc (.cells (zeros 256) 46)) 46 (zeros 256); simpa using this, ((Below.refl _ _).alloc (Nat.le_refl _) _).alloc (by simp) _⟩
  case round =>
    obtain ⟨t, b, D, cs, hg, rfl, rfl, ht, hb0, hb1, hbel⟩ := hrel
    by_cases hpos : 0 < b
    · obtain ⟨hb8, hD, hsh, hg2⟩ := hg.pow hpos
      have hb128 : b ≤ 128 := by omega
      subst hD
      have HT := Lib.hid ht
      have H8 := Lib.hid hb8
      have HSH := Lib.hid hsh
      have HG := Lib.hid hg2
      clear ht hb8 hsh hg2 hg
      obtain ⟨wo, rfl⟩ : ∃ wo : World, wo = wr := ⟨_, rfl⟩
      go_wp2_with (go_at_call 36; refine (shift_any _ _).mono ?_; rintro e w' ⟨rfl, rfl⟩)
      go_loopw [4] (fun i wr => ∃ (k : Nat) (cs : Array Value), i = .int .i64 (k : Int) ∧ k ≤ 256 ∧ TabTo b k cs ∧ Box wr w.heap.size 46 (zeros 256) ∧ Box wr (w.heap.size + 1) 46 cs ∧ Below w.heap.size w wr) (fun i _ => (256 - intOf i).toNat)
      case atStart => exact ⟨0, cs, rfl, by omega, TabTo.start HT.out, hb0, hb1, hbel⟩
      case round =>
        obtain ⟨k, cs2, rfl, hk, htt, hc0, hc1, hbel2⟩ := hrel
        by_cases hlt : k < 256
        · obtain ⟨hib, hck, hst⟩ := htt.step H8.out hlt
          have hc := hc1.cell k
          rw [hck] at hc
          have hf := hc1.free (k + b)
          obtain ⟨x2, hx2⟩ : ∃ x, cs2[k + b]? = some x := ⟨_, Array.getElem?_eq_getElem (show k + b < cs2.size by rw [htt.1.1]; omega)⟩
          have hc2 := hc1.cell (k + b)
          rw [hx2] at hc2
          clear hx2
          have HST := Lib.hid hst
          have HTT := Lib.hid htt
          clear hst htt hck
          go_wp2
          have hv : bits BinOp.xor IntKind.u32 ((tabAt k).toNat : Int) ((sh (shn t 1#32)).toNat : Int) = ((tabAt k ^^^ tabAt b).toNat : Int) := by rw [u32_xor, ← shn_succ', HSH.out]
          go_roundw
          case rel => exact ⟨k + 2 * b, _, by go_num, HST.out.2.2.1, HST.out, hc0.put_other _ _ (by simp), by rw [hv]; exact hc1.put _ _, hbel2.setCell (by simp) _⟩
          case measure => simp [intOf]; omega
        · have hdone := htt.done (by omega)
          go_wp2
          go_roundw
          case rel => exact ⟨t + 1, b / 2, b, cs2, HG.out, by rw [← shn_succ'], by go_num, hdone, hc0, hc1, hbel2⟩
          case measure => simp [intOf]; omega
    · obtain rfl : b = 0 := by omega
      obtain rfl := hg.done
      clear hpos hg
      go_wp2_with (first | refine wpList_load_row rfl 46 (.tmp 1) rfl (w.heap.size + 1) rfl 46 cs (0, 0) _ hb1 Try.underlying46 rfl (by rw [size_256, ht.1]) ?_ | refine wpList_store_row rfl 46 (.tmp 0) (.tmp 26) rfl w.heap.size cs rfl rfl 46 (zeros 256) hb0 (by rw [size_256, ht.1]) (by rw [zeros_size, ht.1]) (TabBy.one ht) ?_)
      exact bodyPost_ret (results_cell_row rfl _ _ w.heap.size 46 cs (0, 0) _ rfl (hb0.row cs) Try.underlying46 rfl (by rw [size_256, ht.1])) rfl ⟨cs, rfl, ht, below_row hbel (Nat.le_refl _) _⟩

end Go.Proofs.Ytjmmhgdafjdmdaa
