/-
  The program's trimmed and limited.
-/
import Derived.Test.YtheadamdhjhnpaaDoorNatMath
namespace Go.Proofs.YtheadamdhjhnpaaDoor
open Go.RowKit

theorem elem_nat : Tryd.prog.underlying 25 = some (.slice (Tryd.prog.elem 25)) := by kernel_rfl
theorem size_elem_nat (W : World) : (sizeOf (Tryd.prog.elem 25)).run Tryd.prog W = .ok 1 W := by kernel_rfl
theorem head_nat (A : Option Addr) (n c N : Nat) (hN : N ≤ c) (W : World) :
    (Instr.sliceAt 25 (.slice A n c) none (some (.int .i64 (N : Int))) none).run Tryd.prog W = .ok (.slice A N c) W := slice_head _ elem_nat size_elem_nat A n c N hN W
theorem tail_nat (b off n m c : Nat) (hm : m ≤ n) (hc : m < c) (W : World) :
    (Instr.sliceAt 25 (.slice (some ⟨b, off, none⟩) n c) (some (.int .i64 (m : Int))) none none).run Tryd.prog W = .ok (.slice (some ⟨b, off + m, none⟩) (n - m) (c - m)) W := slice_tail _ elem_nat size_elem_nat b off n m c hm hc W
theorem slice_mid {P : Program} (t : TypeId) (ht : P.underlying t = some (.slice (P.elem t))) (hs : ∀ W, (sizeOf (P.elem t)).run P W = .ok 1 W) (b off n l h c : Nat) (hl : l ≤ h) (hh : h ≤ c) (hc : l < c) (z : Int) (hz : z = (h : Int)) (W : World) :
    (Instr.sliceAt t (.slice (some ⟨b, off, none⟩) n c) (some (.int .i64 (l : Int))) (some (.int .i64 z)) none).run P W = .ok (.slice (some ⟨b, off + l, none⟩) (h - l) (c - l)) W := by
  subst hz
  rw [run_sliceAt_slice W _ _ _ _ _ ht, run_slice_lh W _ _ n c ht .i64 .i64 (l : Int) (h : Int) (by omega) (by omega) (by omega), hs]
  simp only [Result.andThen, sliced, Int.toNat_natCast, Nat.mul_one]
  rw [if_neg (by omega), Option.map_some, add_plain]
theorem mid_nat (b off n l h c : Nat) (hl : l ≤ h) (hh : h ≤ c) (hc : l < c) (z : Int) (hz : z = (h : Int)) (W : World) :
    (Instr.sliceAt 25 (.slice (some ⟨b, off, none⟩) n c) (some (.int .i64 (l : Int))) (some (.int .i64 z)) none).run Tryd.prog W = .ok (.slice (some ⟨b, off + l, none⟩) (h - l) (c - l)) W := slice_mid _ elem_nat size_elem_nat b off n l h c hl hh hc z hz W
theorem make_nat (l : Nat) (hc : l ≤ 1000000) (W : World) :
    (Instr.makeSlice 25 (.int .i64 (l : Int)) (.int .i64 (l : Int))).run Tryd.prog W = .ok (.slice (some ⟨W.heap.size, 0, none⟩) l l) (W.alloc (.cells (cellsOf (List.replicate l 0)) 3)) := by
  rw [← cellsOf_made]
  exact make_run 25 3 (.int .i64 0) 8 Tryd.underlying25 info_int l l (Nat.le_refl _) hc (by decide) W

/-- append of a whole slice of digits, of one digit, onto a row of the call's own, at the program's type. -/
theorem append_nats {ops : Array Oper} {rest : List Oper} {o : Oper} {a : Act} {Q : Exit → Act → World → Prop} (w : World) (hgd : o.guard = none) (s x : Operand)
    (ho : o.op = .call { callee := .builtin .append, args := #[s, x], argTypes := #[25, 25] })
    (base B : Nat) (v : Value) (xs : List Nat) (hs : a.eval s = v) (hown : w.ownsRow base 3 1 v xs.length (xs.map nv))
    (news : List Nat) (src : Value) (hx : a.eval x = src) (hsl : Arr nv w B src news) (hlen : xs.length + news.length ≤ 1000000000000) (hbase : base ≤ w.heap.size)
    (h : ∀ v' w', w'.ownsRow base 3 1 v' (xs ++ news).length ((xs ++ news).map nv) → Below base w w' → wpList Tryd.prog ops Q rest (a.put o.dst v') w') : wpList Tryd.prog ops Q (o :: rest) a w :=
  append_arr 25 3 (.int .i64 0) 8 Tryd.underlying25 info_int rfl (by decide) one_nv w hgd s x ho base B v xs hs hown news src hx hsl hlen hbase h
theorem append_nat {ops : Array Oper} {rest : List Oper} {o : Oper} {a : Act} {Q : Exit → Act → World → Prop} (w : World) (hgd : o.guard = none) (s x : Operand)
    (ho : o.op = .call { callee := .builtin .append, args := #[s, x], argTypes := #[25, 25] })
    (base : Nat) (v : Value) (xs : List Nat) (hs : a.eval s = v) (hown : w.ownsRow base 3 1 v xs.length (xs.map nv)) (y : Nat) (u : Value) (hu : u = nv y)
    (hx : a.eval x = .slice (some ⟨w.heap.size, 0, none⟩) 1 1) (hlen : xs.length ≤ 1000000000000 - 1) (hbase : base ≤ w.heap.size)
    (h : ∀ v' w', w'.ownsRow base 3 1 v' (xs ++ [y]).length ((xs ++ [y]).map nv) → Below base w w' → wpList Tryd.prog ops Q rest (a.put o.dst v') w') : wpList Tryd.prog ops Q (o :: rest) a (w.alloc (.cells #[u] 3)) :=
  append_one 25 3 (.int .i64 0) 8 Tryd.underlying25 info_int rfl (by decide) one_nv w hgd s x ho base v xs hs hown y u hu hx hlen hbase h

theorem tr_take (l : List Nat) : l.take (tr l).length = tr l := by
  refine snoc_list (P := fun l => l.take (tr l).length = tr l) rfl ?_ l
  intro l d ih
  by_cases hd : d = 0
  · subst hd
    have h1 : (tr l).length ≤ l.length := by rw [← ih, List.length_take]; omega
    rw [tr_snoc_zero, List.take_append_of_le_length h1, ih]
  · rw [tr_snoc l hd, List.take_of_length_le (Nat.le_refl _)]
theorem tr_len (l : List Nat) : (tr l).length ≤ l.length := by rw [← tr_take, List.length_take]; omega
theorem Arr.trim {w : World} {B n c : Nat} {A : Option Addr} {l : List Nat} (h : Arr nv w B (.slice A n c) l) : Arr nv w B (.slice A (tr l).length c) (tr l) := by
  have h1 := tr_len l
  have h2 := h.len
  have := h.head (N := (tr l).length) (by omega)
  rw [tr_take] at this
  exact this

set_option maxHeartbeats 1600000 in
theorem trimmed_any (A : Option Addr) (n c : Nat) (l : List Nat) (w : World) (h : Arr nv w w.heap.size (.slice A n c) l) (hlen : n ≤ 1000000) :
    Calls Tryd.prog 59 #[.slice A n c] w fun e w' => e = .returned (.slice A (tr l).length c) ∧ w = w' := by
  have HL := Lib.hid h.len
  have hcap := h.cap
  go_enter Tryd.func59, Tryd.ntmps59
  go_wp2
  go_loop [3] (fun x => ∃ k : Nat, k ≤ n ∧ x = .int .i64 (k : Int) ∧ Hid (tr (l.take k) = tr l)) (fun x => (intOf x).toNat)
  case atStart => exact ⟨n, by omega, rfl, Lib.hid (by rw [List.take_of_length_le (by have := HL.out; omega)])⟩
  case round =>
    obtain ⟨k, hk, rfl, HT⟩ := hrel
    cases k with
    | zero =>
      have hsl := head_nat A n c 0 (by omega)
      have HE : Hid ((tr l).length = 0) := Lib.hid (by rw [← HT.out]; rfl)
      go_wp2
      go_ret
      exact ⟨by rw [HE.out]; rfl, rfl⟩
    | succ k =>
      obtain ⟨b, off, rfl, hb, hcell⟩ := h.some_ (by omega)
      obtain ⟨d, hd⟩ : ∃ d, l[k]? = some d := ⟨_, List.getElem?_eq_getElem (by have := HL.out; omega)⟩
      have hc := hcell k d hd
      simp only [nv] at hc
      have hk1 : (((k + 1 : Nat) : Int) - 1) = (k : Int) := by omega
      have hpos : (0 : Int) < ((k + 1 : Nat) : Int) := by omega
      by_cases hz : d = 0
      · subst hz
        have HT2 : Hid (tr (l.take k) = tr l) := Lib.hid (by rw [← tr_step hd]; exact HT.out)
        clear hcell hd
        go_wp2
        go_round
        case rel => exact ⟨k, by omega, by go_num, HT2⟩
        case measure => simp [intOf]
      · have hdz : ((d : Int) == 0) = false := by simp; omega
        have hsl := head_nat (some ⟨b, off, none⟩) n c (k + 1) (by omega)
        have HE : Hid ((tr l).length = k + 1) := Lib.hid (by rw [← HT.out, tr_stop hd hz, List.length_take]; have := HL.out; omega)
        clear hcell hd hz
        go_wp2
        go_ret
        exact ⟨by rw [HE.out]; rfl, rfl⟩

theorem trimmed_at (A : Option Addr) (n c : Nat) (l r : List Nat) (w : World) (h : Arr nv w w.heap.size (.slice A n c) l) (hr : tr l = r) (hlen : n ≤ 1000000) :
    Calls Tryd.prog 59 #[.slice A n c] w fun e w' => e = .returned (.slice A r.length c) ∧ Arr nv w w.heap.size (.slice A r.length c) r ∧ w = w' := by
  subst hr
  exact (trimmed_any A n c l w h hlen).mono fun _ _ ⟨h1, h2⟩ => ⟨h1, h.trim, h2⟩

set_option maxHeartbeats 1600000 in
theorem natLimited_any (A : Option Addr) (n c : Nat) (l : List Nat) (w : World) (h : Arr nv w w.heap.size (.slice A n c) l) (hl : Dig l) (hlen : n ≤ 1000000) (r : Except Nat Nat) (hr : limit (vl l) = r) :
    Calls Tryd.prog 50 #[.slice A n c] w fun e w' => ResEnd r e w' ∧ w = w' := by
  subst hr
  have HT : Hid (tr l = dg (vl l)) := Lib.hid (tr_eq _ hl)
  go_enter Tryd.func50, Tryd.ntmps50
  go_wp2_with fail
  refine (trimmed_at A _ c _ _ _ h HT.out (by omega)).mono ?_
  rintro e w1 ⟨rfl, h2, rfl⟩
  by_cases hlen : (dg (vl l)).length ≤ 128
  · have t1 : decide (128 < ((dg (vl l)).length : Int)) = false := by simp; omega
    have HR : Hid (limit (vl l) = .ok (vl l)) := Lib.hid (limit_ok hlen)
    go_wp2
    go_ret2
    rw [HR.out]
    exact ⟨ResEnd.ok ⟨A, c, rfl, h2⟩, rfl⟩
  · have t1 : decide (128 < ((dg (vl l)).length : Int)) = true := by simp; omega
    have HR : Hid (limit (vl l) = .error 3) := Lib.hid (by unfold limit; rw [if_neg (fun hc => hlen (dg_len_pw hc))])
    go_wp2
    go_ret2
    rw [HR.out]
    exact ⟨ResEnd.err 3, rfl⟩

end Go.Proofs.YtheadamdhjhnpaaDoor
