/-
  The contracts of sumOf and Seal, of the program and of the reference.
-/
import Derived.Test.YtjmmhgdafjdmdaaLinear
import Derived.Deep.RegionLaw
namespace Go.Proofs.Ytjmmhgdafjdmdaa
open Go.RowKit

/-- The four cells of a sum. -/
def sumCells (H : Nat) : Array Value := #[.int .u8 ((H : Int) % 256), .int .u8 ((H : Int) / 256 % 256), .int .u8 ((H : Int) / 65536 % 256), .int .u8 ((H : Int) / 16777216)]
theorem sumCells_eq (h : BitVec 32) : sumCells h.toNat = ((le4 h).map bv).toArray := by
  have e : ∀ n : Nat, (UInt8.ofNat (n % 256)).toNat = n % 256 := fun n => by simp
  have hl := h.isLt
  have e4 : ((h.toNat : Int) / 16777216) = ((h.toNat / 16777216 % 256 : Nat) : Int) := by omega
  unfold sumCells le4 bv
  simp only [List.map_cons, List.map_nil, e, e4]
  rfl
theorem sumCells_one (H : Nat) : (sumCells H).all (·.oneCell') = true := by
  rw [Array.all_eq_true']
  intro v hv
  simp only [sumCells, List.mem_toArray, List.mem_cons, List.not_mem_nil, or_false] at hv
  rcases hv with rfl | rfl | rfl | rfl <;> rfl
theorem sumCells_size (H : Nat) : (sumCells H).size = 4 := rfl
theorem size_4 : (Try.prog.info? 49).map (·.size) = some 4 := by kernel_rfl

set_option maxRecDepth 100000 in
set_option maxHeartbeats 1600000 in
theorem sumOf_any (v : Value) (bs : List UInt8) (B : Nat) (w : World) (hs : Sl w B v bs) (hB : B ≤ w.heap.size) (hlen : bs.length ≤ 1000000000000) :
    Calls Try.prog 29 #[v] w fun e w' => e = .returned (.agg (sumCells (crc bs).toNat)) ∧ Below w.heap.size w w' := by
  go_enter Try.func29, Try.ntmps29
  go_wp2_with fail
  refine (of_any v bs B _ (hs.below ((Below.refl _ _).alloc hB _)) (by simp; omega) hlen).mono ?_
  rintro e w1 ⟨rfl, hb1⟩
  have hlt := (crc bs).isLt
  obtain ⟨H, hH⟩ : ∃ H, H = (crc bs).toNat := ⟨_, rfl⟩
  rw [← hH] at hlt ⊢
  have HH := Lib.hid hH
  clear hH
  have hbox : Box w1 w.heap.size 49 #[.int .u8 0, .int .u8 0, .int .u8 0, .int .u8 0] := (Box.made w 49 #[.int .u8 0, .int .u8 0, .int .u8 0, .int .u8 0]).below hb1 (by simp)
  have hbel : Below w.heap.size w w1 := ((Below.refl _ _).alloc (Nat.le_refl _) _).trans (hb1.mono (by simp))
  go_wp2_with (refine wpList_store_row rfl 49 (.tmp 2) (.tmp 17) rfl w.heap.size (sumCells H) rfl rfl 49 _ hbox (by rw [size_4, sumCells_size]) (by rw [sumCells_size]; rfl) (sumCells_one H) ?_)
  exact bodyPost_ret (results_cell_row rfl _ _ w.heap.size 49 (sumCells H) (0, 0) _ rfl (hbox.row _) Try.underlying49 rfl (by rw [size_4, sumCells_size])) rfl ⟨by rw [HH.out], below_row hbel (Nat.le_refl _) _⟩

/-- An append of bytes onto a row of the call's own, as a step of a region that draws its order. -/
theorem step_append_bytes {ops : Array Oper} {o : Oper} {a : Act} {K : Act → World → Prop} {Q : Exit → Act → World → Prop} {E : Prop} (w : World) (hgd : o.guard = none) (s x : Operand)
    (ho : o.op = .call { callee := .builtin .append, args := #[s, x], argTypes := #[22, 22] })
    (base B : Nat) (v : Value) (bs : List UInt8) (hs : a.eval s = v) (hown : w.ownsRow base 5 1 v bs.length (bs.map bv))
    (news : List UInt8) (src : Value) (hx : a.eval x = src) (hsl : Sl w B src news) (hlen : bs.length + news.length ≤ 1000000000000) (hbase : base ≤ w.heap.size)
    (h : ∀ v' w', w'.ownsRow base 5 1 v' (bs ++ news).length ((bs ++ news).map bv) → Below base w w' → K (a.put o.dst v') w') :
    if Region.wanted o (yielded ops a.tmps) = true then Oper.wp Try.prog o a w K Q else E := by
  have hw : Region.wanted o (yielded ops a.tmps) = true := by simp [Region.wanted, hgd]
  rw [if_pos hw]
  obtain ⟨i0, hi, hz0, hz1, hz2⟩ := info_parts info_u8
  rcases hsl with ⟨rfl, rfl⟩ | ⟨ad, c, rfl, _, _, hc⟩
  · have hrun := run_append_owned_none (P := Try.prog) (w := w) base 22 o.type 5 i0 1 Try.underlying22 hi v bs.length (bs.map bv) hown
    unfold Oper.wp
    simp [execOp, ho, resolve, invoke, builtin, hs, hx, hrun, Result.andThen]
    exact h v w (by rw [List.append_nil]; exact hown) (Below.refl _ _)
  · refine wp_append_own w s x 22 ho base 5 i0 (.int .u8 0) 1 1 Try.underlying22 hi hz0 hz1 hz2 rfl (by decide) v bs.length (bs.map bv) hs hown ad news.length c (news.map bv) hx (by simp) ?_ ?_ (by unfold maxLen; omega) (by omega) hbase ?_
    · intro j u hu
      rw [List.getElem?_map] at hu
      cases hj : news[j]? with
      | none => rw [hj] at hu; simp at hu
      | some y => rw [hj] at hu; simp at hu; rw [hc j y hj, hu]
    · intro u hu
      obtain ⟨y, _, rfl⟩ := List.mem_map.1 hu
      rfl
    · intro v' w' h1 h2 _
      exact h v' w' (by rw [List.length_append, List.map_append]; exact h1) ((Below.refl _ _).grown h2 hbase fun k hk => (hown.lt k hk).1)

theorem own_room (w : World) (c : Nat) (hc : c ≤ 1000000) : (w.alloc (.cells (madeB c) 5)).ownsRow w.heap.size 5 1 (.slice (some ⟨w.heap.size, 0, none⟩) 0 c) ([] : List UInt8).length (([] : List UInt8).map bv) :=
  ⟨by simp, .inr ⟨w.heap.size, c, _, rfl, Nat.le_refl _, heap_alloc_new w _, Nat.zero_le _, by unfold maxLen; omega, by simp [madeB_size], by simp⟩⟩

theorem own_box {w : World} {base g c : Nat} {cs : Array Value} (hb : Box w g 5 cs) (hs : cs.size = c) (hc : c ≤ 1000000) (hg : base ≤ g) :
    w.ownsRow base 5 1 (.slice (some ⟨g, 0, none⟩) 0 c) ([] : List UInt8).length (([] : List UInt8).map bv) :=
  ⟨by simp, .inr ⟨g, c, _, rfl, hg, hb, Nat.zero_le _, by unfold maxLen; omega, by simp [hs], by simp⟩⟩

theorem own_less {w : World} {base base' : Nat} {e : TypeId} {v : Value} {n : Nat} {xs : List Value} (hb : base' ≤ base) (h : w.ownsRow base e 1 v n xs) : w.ownsRow base' e 1 v n xs := by
  obtain ⟨h1, h2 | ⟨g, cap, cur, hv, hg, hrest⟩⟩ := h
  · exact ⟨h1, .inl h2⟩
  · exact ⟨h1, .inr ⟨g, cap, cur, hv, Nat.le_trans hb hg, hrest⟩⟩

theorem sl_sum {w : World} {g : Nat} {t : TypeId} {h : BitVec 32} (hb : Box w g t (sumCells h.toNat)) : Sl w (g + 1) (.slice (some ⟨g, 0, none⟩) 4 4) (le4 h) := by
  refine .inr ⟨⟨g, 0, none⟩, 4, rfl, Nat.le_refl _, fun _ => by simp, fun i u hu => ?_⟩
  rw [plain_add, hb.cell, sumCells_eq]
  simp [hu]

set_option maxRecDepth 100000 in
set_option maxHeartbeats 1600000 in
theorem sealed_any (A : Option Addr) (n c : Nat) (bs : List UInt8) (B : Nat) (w : World) (hs : Sl w B (.slice A n c) bs) (hn : bs.length = n) (hB : B ≤ w.heap.size) (hlen : n ≤ 1000) :
    Calls Try.prog 16 #[.slice A n c] w fun e w' => ∃ v', e = .returned v' ∧ w'.ownsRow w.heap.size 5 1 v' (seal_ bs).length ((seal_ bs).map bv) ∧ Below w.heap.size w w' := by
  have hmk : ∀ W : World, (Instr.makeSlice 22 (.int .i64 0) (.int .i64 ((n : Int) + 4))).run Try.prog W = .ok (.slice (some ⟨W.heap.size, 0, none⟩) 0 (n + 4)) (W.alloc (.cells (madeB (n + 4)) 5)) := fun W => make_bytes 0 (n + 4) (by omega) (by omega) W
  have HN := Lib.hid hn
  clear hn
  go_enter Try.func16, Try.ntmps16
  go_wp2_with fail
  refine (sumOf_any _ bs B _ hs hB (by have := HN.out; omega)).mono ?_
  rintro e w1 ⟨rfl, hb1⟩
  go_wp2_with (refine wpList_store_rowTo rfl 49 (.tmp 3) (.tmp 6) rfl rfl w1.heap.size (sumCells (crc bs).toNat) rfl rfl 49 _ (Box.made _ _ _) (by rw [size_4, sumCells_size]) (by rw [sumCells_size]; rfl) (sumCells_one _) ?_)
  have hsz1 := hb1.size
  obtain ⟨w3, hw3⟩ : ∃ w3, w3 = (((w1.alloc (.cells #[.int .u8 0, .int .u8 0, .int .u8 0, .int .u8 0] 49)).setRow w1.heap.size (sumCells (crc bs).toNat)).alloc (.cells (madeB (n + 4)) 5)) := ⟨_, rfl⟩
  rw [← hw3]
  have hbel : Below w.heap.size w w3 := by rw [hw3]; exact (below_row (hb1.alloc hsz1 _) hsz1 _).alloc (by simp; omega) _
  have hbox : Box w3 (w1.heap.size + 1) 5 (madeB (n + 4)) := by
    rw [hw3]
    have := Box.made ((w1.alloc (.cells #[.int .u8 0, .int .u8 0, .int .u8 0, .int .u8 0] 49)).setRow w1.heap.size (sumCells (crc bs).toNat)) 5 (madeB (n + 4))
    simpa using this
  have hsum : Box w3 w1.heap.size 49 (sumCells (crc bs).toNat) := by
    rw [hw3]
    exact ((Box.made w1 49 #[.int .u8 0, .int .u8 0, .int .u8 0, .int .u8 0]).row _).alloc _
  clear hw3 hmk
  have hown : w3.drew.ownsRow (w1.heap.size + 1) 5 1 (.slice (some ⟨w1.heap.size + 1, 0, none⟩) 0 (n + 4)) ([] : List UInt8).length (([] : List UInt8).map bv) := own_box hbox (madeB_size _) (by omega) (by omega)
  have hsl : Sl w3.drew B (.slice A n c) bs := hs.below ((hbel.mono hB).drew)
  have hsl2 : Sl w3.drew (w1.heap.size + 1) (.slice (some ⟨w1.heap.size, 0, none⟩) 4 4) (le4 (crc bs)) := sl_sum hsum
  have hl := HN.out
  have hsz3 : w1.heap.size + 1 < w3.drew.heap.size := hbox.lt
  go_region_law (first | (refine step_append_bytes _ rfl (.tmp 11) (.tmp 12) rfl (w1.heap.size + 1) B (.slice (some ⟨w1.heap.size + 1, 0, none⟩) 0 (n + 4)) [] rfl hown bs (.slice A n c) rfl hsl (by simp; omega) (by omega) ?_; intro r1 w4 hown1 hb4) | (refine step_append_bytes _ rfl (.tmp 13) (.tmp 14) rfl (w1.heap.size + 1) (w1.heap.size + 1) r1 ([] ++ bs) rfl hown1 (le4 (crc bs)) (.slice (some ⟨w1.heap.size, 0, none⟩) 4 4) rfl (hsl2.below hb4) (by simp [le4]; omega) (by have := hb4.size; omega) ?_; intro r2 w5 hown2 hb5))
  go_wp2
  go_ret
  exact ⟨_, rfl, own_less (by omega) hown2, hbel.drew.trans ((hb4.trans hb5).mono (by omega))⟩

end Go.Proofs.Ytjmmhgdafjdmdaa
