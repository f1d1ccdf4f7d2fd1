/-
  The body of the statement DigestLinear.
-/
import Derived.Test.YtjmmhgdafjdmdaaParts
import Derived.Deep.RegionHeld3
import Derived.StillTailTactics
import Derived.WalkLawsBesides
namespace Go.Proofs.Ytjmmhgdafjdmdaa
open Go.RowKit

theorem of_from (W : World) (v : Value) (bs : List UInt8) (w : World) (hk : Below W.heap.size W w) (hs : Sl W W.heap.size v bs) (hlen : bs.length ≤ 1000000000000) :
    Calls Try.prog 11 #[v] w fun e w' => e = .returned (.int .u32 ((crc bs).toNat : Int)) ∧ Below W.heap.size W w' :=
  (of_any v bs W.heap.size w (hs.at hk) hk.size hlen).mono fun _ _ ⟨h1, h2⟩ => ⟨h1, hk.trans (h2.mono hk.size)⟩

/-- A new slice of bytes, all 0. -/
def madeB (c : Nat) : Array Value := madeCells #[.int .u8 0] c
theorem madeB_size (c : Nat) : (madeB c).size = c := size_madeCells _ _
theorem make_bytes (l c : Nat) (hlc : l ≤ c) (hc : c ≤ 1000000) (W : World) :
    (Instr.makeSlice 22 (.int .i64 (l : Int)) (.int .i64 (c : Int))).run Try.prog W = .ok (.slice (some ⟨W.heap.size, 0, none⟩) l c) (W.alloc (.cells (madeB c) 5)) := by
  obtain ⟨i0, hi, hz0, hz1, hz2⟩ := info_parts info_u8
  have := run_makeSlice (P := Try.prog) W 22 5 i0 (.int .u8 0) Try.underlying22 hi hz0 .i64 .i64 (l : Int) (c : Int) (by omega) (by omega) (by rw [hz1]; omega) (by rw [hz2]; omega) (by omega)
  rw [this, hz1]
  simp [madeB, Value.cells]

theorem slice_head (A : Option Addr) (n c N : Nat) (hN : N ≤ c) (W : World) :
    (Instr.sliceAt 22 (.slice A n c) none (some (.int .i64 (N : Int))) none).run Try.prog W = .ok (.slice A N c) W := by
  have ht : Try.prog.underlying 22 = some (.slice (Try.prog.elem 22)) := by kernel_rfl
  have hs : (sizeOf (Try.prog.elem 22)).run Try.prog W = .ok 1 W := by kernel_rfl
  rw [run_sliceAt_slice W _ _ _ _ _ ht, run_slice_h W _ A n c ht .i64 (N : Int) (by omega) (by omega), hs]
  simp only [Result.andThen, sliced, Int.toNat_natCast, Nat.zero_mul, Nat.sub_zero]
  have ha : ∀ a : Addr, a.add 0 = a := by
    intro a
    unfold Addr.add
    simp
  cases A with
  | none => simp
  | some a => simp [ha]

theorem Sl.head {w : World} {B N n c : Nat} {A : Option Addr} {bs : List UInt8} (h : Sl w B (.slice A n c) bs) (hN : N ≤ n) (hn : bs.length = n) : Sl w B (.slice A N c) (bs.take N) := by
  have hl : (bs.take N).length = N := by rw [List.length_take]; omega
  rcases h with ⟨e, rfl⟩ | ⟨a, c', e, hc, hb, hcell⟩
  · simp only [Value.slice.injEq] at e
    obtain ⟨rfl, rfl, rfl⟩ := e
    obtain rfl : N = 0 := by omega
    exact .inl ⟨rfl, rfl⟩
  · simp only [Value.slice.injEq] at e
    obtain ⟨rfl, rfl, rfl⟩ := e
    refine .inr ⟨a, c, by rw [hl], by omega, fun h0 => hb (by omega), fun i u hu => hcell i u ?_⟩
    rw [List.getElem?_take] at hu
    split at hu
    · exact hu
    · cases hu

theorem Sl.cap {w : World} {B n c : Nat} {A : Option Addr} {bs : List UInt8} (h : Sl w B (.slice A n c) bs) (hn : bs.length = n) : n ≤ c := by
  rcases h with ⟨e, rfl⟩ | ⟨a, c', e, hc, _⟩
  · simp at hn; omega
  · simp only [Value.slice.injEq] at e
    obtain ⟨_, _, rfl⟩ := e
    omega

theorem Sl.some_ {w : World} {B n c : Nat} {A : Option Addr} {bs : List UInt8} (h : Sl w B (.slice A n c) bs) (h0 : 0 < bs.length) :
    ∃ b off, A = some ⟨b, off, none⟩ ∧ b < B ∧ ∀ i u, bs[i]? = some u → w.cell? ⟨b, off + i, none⟩ = some (bv u) := by
  rcases h.split with ⟨rfl, _⟩ | ⟨_, b, off, c', e, _, hb, hc⟩
  · simp at h0
  · simp only [Value.slice.injEq] at e
    exact ⟨b, off, e.1, hb, hc⟩

/-- The cells below k are those of S. -/
def SumTo (S : List UInt8) (k : Nat) (cs : Array Value) : Prop := cs.size = S.length ∧ ∀ i u, i < k → S[i]? = some u → cs[i]? = some (bv u)
theorem SumTo.step {S : List UInt8} {k : Nat} {cs : Array Value} (h : SumTo S k cs) {u : UInt8} (hu : S[k]? = some u) : SumTo S (k + 1) (cs.setIfInBounds k (bv u)) := by
  refine ⟨by simp [h.1], fun i x hi hx => ?_⟩
  by_cases hik : k = i
  · subst hik
    rw [hu] at hx
    injection hx with hx
    rw [Array.getElem?_setIfInBounds_self, if_pos (by rw [h.1]; exact (List.getElem?_eq_some_iff.1 hu).1), hx]
  · rw [Array.getElem?_setIfInBounds_ne hik]
    exact h.2 i x (by omega) hx
theorem SumTo.done {S : List UInt8} {k n : Nat} {cs : Array Value} {w : World} {g : Nat} {t : TypeId} (h : SumTo S k cs) (hb : Box w g t cs) (hk : S.length ≤ k) (hn : S.length = n) : Sl w (g + 1) (.slice (some ⟨g, 0, none⟩) n n) S := by
  subst hn
  refine .inr ⟨⟨g, 0, none⟩, S.length, rfl, Nat.le_refl _, fun _ => by simp, fun i u hu => ?_⟩
  rw [plain_add, hb.cell]
  exact h.2 i u (by have := (List.getElem?_eq_some_iff.1 hu).1; omega) hu

theorem sum3_at : ∀ (a b c : List UInt8) (k : Nat) (x y z : UInt8), a[k]? = some x → b[k]? = some y → c[k]? = some z → (sum3 a b c)[k]? = some (x ^^^ y ^^^ z)
  | p :: a, q :: b, r :: c, 0, x, y, z, h1, h2, h3 => by simp at h1 h2 h3; subst h1 h2 h3; rfl
  | p :: a, q :: b, r :: c, k + 1, x, y, z, h1, h2, h3 => by simp at h1 h2 h3; simp only [sum3, List.getElem?_cons_succ]; exact sum3_at a b c k x y z h1 h2 h3
  | [], _, _, _, _, _, _, h1, _, _ => by simp at h1
  | _ :: _, [], _, _, _, _, _, _, h2, _ => by simp at h2
  | _ :: _, _ :: _, [], _, _, _, _, _, _, h3 => by simp at h3

theorem take_at {l : List UInt8} {N k : Nat} (h : k < N) : (l.take N)[k]? = l[k]? := by rw [List.getElem?_take, if_pos h]

theorem u8_xor3 (x y z : UInt8) : bits .xor .u8 (bits .xor .u8 (x.toNat : Int) (y.toNat : Int)) (z.toNat : Int) = ((x ^^^ y ^^^ z).toNat : Int) := by
  have h : x.toNat ^^^ y.toNat < 256 := Nat.xor_lt_two_pow (n := 8) x.toNat_lt y.toNat_lt
  rw [u8_xor _ _ x.toNat_lt y.toNat_lt, u8_xor _ _ h z.toNat_lt, UInt8.toNat_xor, UInt8.toNat_xor]

theorem min2_int {P : Program} (w : World) (x y : Nat) : (Builtin.min2 (.int .i64 (x : Int)) (.int .i64 (y : Int))).run P w = .ok (.int .i64 ((min x y : Nat) : Int)) w := by
  unfold Builtin.min2
  by_cases h : (y : Int) < (x : Int)
  · have : min x y = y := by omega
    rw [this]; simp [h]
  · have : min x y = x := by omega
    rw [this]; simp [h]

theorem min4_int {P : Program} (w : World) (ts : Array TypeId) (t : TypeId) (x y z N : Nat) (h : N = min (min (min x y) z) 200) :
    (Builtin.min_ ts t #[.int .i64 (x : Int), .int .i64 (y : Int), .int .i64 (z : Int), .int .i64 200]).run P w = .ok (.int .i64 (N : Int)) w := by
  subst h
  have e : (200 : Int) = ((200 : Nat) : Int) := rfl
  simp only [Builtin.min_, List.foldlM, Sem.run_bind, min2_int, Result.andThen_ok, e, Sem.run_pure]

set_option maxRecDepth 100000 in
set_option maxHeartbeats 1600000 in
theorem digestLinear_any (A0 A1 A2 : Option Addr) (c0 c1 c2 n0 n1 n2 : Nat) (a b c : List UInt8) (w : World) (h0 : Sl w w.heap.size (.slice A0 n0 c0) a) (h1 : Sl w w.heap.size (.slice A1 n1 c1) b) (h2 : Sl w w.heap.size (.slice A2 n2 c2) c)
    (l0 : a.length = n0) (l1 : b.length = n1) (l2 : c.length = n2) :
    Calls Try.prog 9 #[.slice A0 n0 c0, .slice A1 n1 c1, .slice A2 n2 c2] w fun e w' => e = .returned (.bool true) ∧ Below w.heap.size w w' := by
  have L0 := Lib.hid l0
  have L1 := Lib.hid l1
  have L2 := Lib.hid l2
  clear l0 l1 l2
  go_enter Try.func9, Try.ntmps9
  go_wp2_with fail
  refine (awake_any _).mono ?_
  rintro e w1 ⟨rfl, hb1⟩
  obtain ⟨N, hN⟩ : ∃ N, N = min (min (min n0 n1) n2) 200 := ⟨_, rfl⟩
  have hmin := fun W ts t => min4_int (P := Try.prog) W ts t n0 n1 n2 N hN
  have hN1 : N ≤ n0 ∧ N ≤ n1 ∧ N ≤ n2 ∧ N ≤ 200 := by omega
  obtain ⟨hN0, hN1, hN2, hN3⟩ := hN1
  clear hN
  have hmk := make_bytes N N (Nat.le_refl _) (by omega)
  have HS : Hid ((sum3 (a.take N) (b.take N) (c.take N)).length = N) := by
    have e0 := L0.out
    have e1 := L1.out
    have e2 := L2.out
    refine Lib.hid ?_
    rw [sum3_length _ _ _ (by rw [List.length_take, List.length_take]; omega) (by rw [List.length_take, List.length_take]; omega), List.length_take]
    omega
  go_wp2
  clear hmin hmk
  have hsz1 := hb1.size
  go_loopw [9] (fun i wr => ∃ (k : Nat) (cs : Array Value), k ≤ N ∧ i = .int .i64 (k : Int) ∧ SumTo (sum3 (a.take N) (b.take N) (c.take N)) k cs ∧ Box wr w1.heap.size 5 cs ∧ Below w.heap.size w wr) (fun i _ => N - (intOf i).toNat)
  case atStart => exact ⟨0, madeB N, by omega, rfl, ⟨by rw [madeB_size, HS.out], fun i u hi => by omega⟩, Box.made _ _ _, hb1.alloc hb1.size _⟩
  case round =>
    obtain ⟨k, cs, hk, rfl, hsum, hbox, hbel⟩ := hrel
    by_cases hlt : k < N
    · obtain ⟨b0, o0, rfl, hB0, hc0⟩ := h0.some_ (by have := L0.out; omega)
      obtain ⟨b1, o1, rfl, hB1, hc1⟩ := h1.some_ (by have := L1.out; omega)
      obtain ⟨b2, o2, rfl, hB2, hc2⟩ := h2.some_ (by have := L2.out; omega)
      obtain ⟨x, hx⟩ : ∃ x, a[k]? = some x := ⟨_, List.getElem?_eq_getElem (by have := L0.out; omega)⟩
      obtain ⟨y, hy⟩ : ∃ x, b[k]? = some x := ⟨_, List.getElem?_eq_getElem (by have := L1.out; omega)⟩
      obtain ⟨z, hz⟩ : ∃ x, c[k]? = some x := ⟨_, List.getElem?_eq_getElem (by have := L2.out; omega)⟩
      have d0 := (hbel.cell (p := ⟨b0, o0 + k, none⟩) hB0).trans (hc0 k x hx)
      have d1 := (hbel.cell (p := ⟨b1, o1 + k, none⟩) hB1).trans (hc1 k y hy)
      have d2 := (hbel.cell (p := ⟨b2, o2 + k, none⟩) hB2).trans (hc2 k z hz)
      have hst := hsum.step (sum3_at _ _ _ k x y z (by rw [take_at hlt]; exact hx) (by rw [take_at hlt]; exact hy) (by rw [take_at hlt]; exact hz))
      obtain ⟨x2, hx2⟩ : ∃ v, cs[k]? = some v := ⟨_, Array.getElem?_eq_getElem (show k < cs.size by rw [hsum.1, HS.out]; exact hlt)⟩
      have d3 := hbox.cell k
      rw [hx2] at d3
      have hf := hbox.free k
      have hxor := u8_xor3 x y z
      have i0 : (k : Int) < (n0 : Int) := by omega
      have i1 : (k : Int) < (n1 : Int) := by omega
      have i2 : (k : Int) < (n2 : Int) := by omega
      have HST := Lib.hid hst
      have HX := Lib.hid hxor
      simp only [bv] at d0 d1 d2
      clear hc0 hc1 hc2 hx hy hz hst hx2 hxor h0 h1 h2
      go_wp2
      go_still_tail 17, (by kernel_rfl)
      go_wp2
      go_roundw
      case rel => exact ⟨k + 1, _, by omega, by go_num, HST.out, by rw [HX.out]; exact hbox.put _ _, (hbel.setCell hsz1 _).drew⟩
      case measure => simp [intOf]; omega
    · obtain rfl : k = N := by omega
      have g0 := slice_head A0 n0 c0 k (by have := h0.cap L0.out; omega)
      have g1 := slice_head A1 n1 c1 k (by have := h1.cap L1.out; omega)
      have g2 := slice_head A2 n2 c2 k (by have := h2.cap L2.out; omega)
      have s0 := (((h0.at hbel).head hN0 L0.out).more hbel.size)
      have s1 := (((h1.at hbel).head hN1 L1.out).more hbel.size)
      have s2 := (((h2.at hbel).head hN2 L2.out).more hbel.size)
      have s3 := (hsum.done hbox (by rw [HS.out]; exact Nat.le_refl _) HS.out).more hbox.lt
      have e0 := L0.out
      have e1 := L1.out
      have e2 := L2.out
      have t0 : (a.take k).length = k := by rw [List.length_take]; omega
      have t1 : (b.take k).length = k := by rw [List.length_take]; omega
      have t2 : (c.take k).length = k := by rw [List.length_take]; omega
      have t3 := HS.out
      have hcrc := crc_sum3 (a.take k) (b.take k) (c.take k) (by omega) (by omega)
      generalize sum3 (a.take k) (b.take k) (c.take k) = S at *
      generalize a.take k = a' at *
      generalize b.take k = b' at *
      generalize c.take k = c' at *
      have hx : bits .xor .u32 (bits .xor .u32 ((crc a').toNat : Int) ((crc b').toNat : Int)) ((crc c').toNat : Int) = ((crc S).toNat : Int) := by rw [u32_xor, u32_xor, hcrc]
      have HX := Lib.hid hx
      have q0 : a'.length ≤ 1000000000000 := by omega
      have q1 : b'.length ≤ 1000000000000 := by omega
      have q2 : c'.length ≤ 1000000000000 := by omega
      have q3 : S.length ≤ 1000000000000 := by omega
      have hk0 : Below wr.heap.size wr wr := Below.refl _ _
      clear h0 h1 h2 L0 L1 L2 e0 e1 e2 t0 t1 t2 t3 hcrc hsum HS hlt hx hbox
      go_wp2
      go_region_held3 (fun W' => Below wr.heap.size wr W') (first | exact (Below.refl _ _).drew | assumption) (first | (go_at_call 11; (first | refine (of_from wr _ S _ ?_ s3 q3).mono ?_ | refine (of_from wr _ a' _ ?_ s0 q0).mono ?_ | refine (of_from wr _ b' _ ?_ s1 q1).mono ?_ | refine (of_from wr _ c' _ ?_ s2 q2).mono ?_); go_must (assumption); rintro e wI ⟨rfl, hbI⟩))
      rw [HX.out, beq_self_eq_true]
      go_wp2
      go_ret
      exact ⟨rfl, hbel.trans (hbI.mono hbel.size)⟩

end Go.Proofs.Ytjmmhgdafjdmdaa
