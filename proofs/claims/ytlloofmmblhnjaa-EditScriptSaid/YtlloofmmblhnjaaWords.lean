/-
  Words for every layer, over any program and any numbering: slices as lists, blocks known whole, what only makes new blocks, appends, slice expressions, strings and bytes.
-/
import Derived.WalkKit
import Derived.WalkSpells
import Derived.Lib.Hide
import Derived.Outline
import Derived.Deep.Draws
import Derived.Deep.RegionLaw
import Derived.Laws.AppendOwnNone
import Derived.Laws.MakeOwn
import Derived.Lib.AppendStr
import Derived.Great.BuildSlice
namespace Go.Proofs.Ytlloofmmblhnjaa
open Go.RowKit

theorem ret_int {k : IntKind} {a b : Int} (h : a = b) : Ending.returned (.int k a) = .returned (.int k b) := by rw [h]
theorem ret_bool {a b : Bool} (h : a = b) : Ending.returned (.bool a) = .returned (.bool b) := by rw [h]
theorem value_int {k : IntKind} {a b : Int} (h : a = b) : Value.int k a = Value.int k b := by rw [h]

/-! Elements as the model holds them. -/
def bv (c : UInt8) : Value := .int .u8 (c.toNat : Int)
def iv (n : Int) : Value := .int .i64 n
/-- A string of the model out of a list of bytes. -/
def str (bs : List UInt8) : ByteArray := ⟨bs.toArray⟩
def sv (s : List UInt8) : Value := .string (str s)
theorem str_toList (bs : List UInt8) : (str bs).toList = bs := ByteArray.toList_mk bs
theorem str_size (bs : List UInt8) : (str bs).size = bs.length := rfl
theorem str_data (b : ByteArray) : str b.data.toList = b := by
  unfold str
  cases b
  simp
theorem str_at (s : List UInt8) (k : Nat) (h : k < (str s).size) : s[k]? = some ((str s)[k]) := List.getElem?_eq_getElem h
theorem str_append (a b : List UInt8) : str a ++ str b = str (a ++ b) := by
  apply ByteArray.ext
  simp [str]
theorem take_next {α : Type} {s : List α} {k : Nat} {c : α} (h : s[k]? = some c) : s.take (k + 1) = s.take k ++ [c] := by
  obtain ⟨hl, he⟩ := List.getElem?_eq_some_iff.1 h
  rw [List.take_succ_eq_append_getElem hl, he]

/-! Addresses. -/
theorem add_block (a : Addr) (n : Nat) : (a.add n).block = a.block := by unfold Addr.add; split <;> rfl
theorem add_plain (b o i : Nat) : (⟨b, o, none⟩ : Addr).add i = ⟨b, o + i, none⟩ := by unfold Addr.add; split <;> simp_all
theorem plain_add (g j : Nat) : (⟨g, 0, none⟩ : Addr).add j = ⟨g, j, none⟩ := by unfold Addr.add; split <;> simp_all
theorem add_zero_ (a : Addr) : a.add 0 = a := by unfold Addr.add; simp

/-! A block that is known whole. -/
def Box (w : World) (g : Nat) (t : TypeId) (cs : Array Value) : Prop := w.heap[g]? = some (.cells cs t (0, 0))
section
variable {w w' : World} {g : Nat} {t : TypeId} {cs : Array Value}
theorem Box.lt (h : Box w g t cs) : g < w.heap.size := (Array.getElem?_eq_some_iff.1 h).1
theorem Box.cell (h : Box w g t cs) (i : Nat) : w.cell? ⟨g, i, none⟩ = cs[i]? := Go.cell_of_row w g i cs t (0, 0) h
theorem Box.free (h : Box w g t cs) (i : Nat) : w.frozen? ⟨g, i, none⟩ = false := Go.frozen_of_row w g i cs t h
theorem Box.put (h : Box w g t cs) (i : Nat) (v : Value) : Box (w.setCell ⟨g, i, none⟩ v) g t (cs.setIfInBounds i v) := Go.heap_setCell_same w g i cs t v h
theorem Box.put_other (h : Box w g t cs) (p : Addr) (v : Value) (hne : g ≠ p.block) : Box (w.setCell p v) g t cs := (Below.heap_setCell w p v g hne).trans h
theorem Box.made (w : World) (t : TypeId) (cs : Array Value) : Box (w.alloc (.cells cs t)) w.heap.size t cs := heap_alloc_new w _
theorem Box.alloc (h : Box w g t cs) (o : Obj) : Box (w.alloc o) g t cs := (Below.heap_alloc w o g h.lt).trans h
theorem Box.grown {row : Option Nat} (h : Box w g t cs) (hg : w.grownBy w' row) (hne : some g ≠ row) : Box w' g t cs := (hg.block g h.lt hne).trans h
theorem Box.below {B : Nat} (h : Box w g t cs) (hb : Below B w w') (hg : g < B) : Box w' g t cs := (hb.block g hg).trans h
theorem Box.drew (h : Box w g t cs) : Box w.drew g t cs := h
theorem Box.drewN (h : Box w g t cs) (n : Nat) : Box (w.drewN n) g t cs := h
theorem Box.row {old : Array Value} (h : Box w g t old) (cs : Array Value) : Box (w.setRow g cs) g t cs := setRow_heap w g old cs t (0, 0) h
end

/-! What only makes new blocks. -/
theorem below_row {B : Nat} {a w : World} (h : Below B a w) {g : Nat} (hg : B ≤ g) (cs : Array Value) : Below B a (w.setRow g cs) :=
  ⟨h.os, h.tape, h.output, by rw [size_setRow]; exact h.size, fun i hi => (setRow_other w g i cs (by omega)).trans (h.block i hi)⟩
theorem below_drewN {B : Nat} {a w : World} (h : Below B a w) (n : Nat) : Below B a (w.drewN n) := ⟨h.os, h.tape, h.output, h.size, h.block⟩
theorem grown_refl (w : World) (row : Option Nat) : w.grownBy w row := ⟨rfl, rfl, rfl, Nat.le_refl _, fun _ _ _ => rfl⟩
theorem grown_trans {a b c : World} {row : Option Nat} (h : a.grownBy b row) (k : b.grownBy c row) : a.grownBy c row :=
  ⟨k.os.trans h.os, k.tape.trans h.tape, k.output.trans h.output, Nat.le_trans h.size k.size, fun i hi hne => (k.block i (Nat.lt_of_lt_of_le hi h.size) hne).trans (h.block i hi hne)⟩
theorem grown_of_below {a b : World} (row : Option Nat) (h : Below a.heap.size a b) : a.grownBy b row := ⟨h.os, h.tape, h.output, h.size, fun i hi _ => h.block i hi⟩
theorem below_of_grown {a b : World} (h : a.grownBy b none) : Below a.heap.size a b := ⟨h.os, h.tape, h.output, h.size, fun i hi => h.block i hi (by simp)⟩
theorem below_grown {B : Nat} {a b c : World} {row : Option Nat} (h : Below B a b) (k : b.grownBy c row) (hB : B ≤ a.heap.size) (hr : ∀ g, row = some g → B ≤ g) : Below B a c :=
  h.grown k (by have := h.size; omega) hr
/-- From a call's base to a later world's. -/
theorem below_next {a b c : World} (h : Below a.heap.size a b) (k : Below b.heap.size b c) : Below a.heap.size a c := h.trans (k.mono h.size)
theorem below_new {a b : World} (h : Below a.heap.size a b) (o : Obj) : Below a.heap.size a (b.alloc o) := h.alloc h.size o

/-! Rows of the call's own. -/
theorem own_keep {w w' : World} {base : Nat} {e : TypeId} {size : Nat} {v : Value} {n : Nat} {xs : List Value} (h : w.ownsRow base e size v n xs) (hg : w.grownBy w' none) : w'.ownsRow base e size v n xs :=
  h.kept hg (by cases v.ownBlock with
    | none => exact .inl rfl
    | some g => exact .inr (by simp))
theorem own_keep_below {w w' : World} {base : Nat} {e : TypeId} {size : Nat} {v : Value} {n : Nat} {xs : List Value} (h : w.ownsRow base e size v n xs) (hb : Below w.heap.size w w') : w'.ownsRow base e size v n xs :=
  own_keep h (grown_of_below none hb)
theorem own_less {w : World} {base base' : Nat} {e : TypeId} {size n : Nat} {v : Value} {xs : List Value} (hb : base' ≤ base) (h : w.ownsRow base e size v n xs) : w.ownsRow base' e size v n xs := by
  obtain ⟨h1, h2 | ⟨g, cap, cur, hv, hg, hrest⟩⟩ := h
  · exact ⟨h1, .inl h2⟩
  · exact ⟨h1, .inr ⟨g, cap, cur, hv, Nat.le_trans hb hg, hrest⟩⟩
theorem own_drewN {w : World} {base : Nat} {e : TypeId} {size n : Nat} {v : Value} {xs : List Value} (h : w.ownsRow base e size v n xs) (k : Nat) : (w.drewN k).ownsRow base e size v n xs := h
/-- []T{} -/
theorem own_empty (w : World) (e : TypeId) : (w.alloc (.cells #[] e)).ownsRow w.heap.size e 1 (.slice (some ⟨w.heap.size, 0, none⟩) 0 0) 0 [] :=
  ⟨by simp, .inr ⟨w.heap.size, 0, _, rfl, Nat.le_refl _, heap_alloc_new w _, Nat.le_refl _, by unfold maxLen; omega, by simp, by simp⟩⟩
/-- A block's first cells. -/
theorem own_box {w : World} {base g n c : Nat} {e : TypeId} {cs : Array Value} (hb : Box w g e cs) (hs : cs.size = c) (hn : n ≤ c) (hc : c ≤ maxLen) (hg : base ≤ g) :
    w.ownsRow base e 1 (.slice (some ⟨g, 0, none⟩) n c) n (cs.toList.take n) :=
  ⟨by simp; omega, .inr ⟨g, c, _, rfl, hg, hb, hn, hc, by simp [hs], by simp⟩⟩

/-! Slices as lists. -/
/-- In w, the slice v reads as the list xs: it is nil, or its elements stand below block B. -/
def Arr {α : Type} (val : α → Value) (w : World) (B : Nat) (v : Value) (xs : List α) : Prop :=
  (v = .slice none 0 0 ∧ xs = []) ∨ ∃ (a : Addr) (c : Nat), v = .slice (some a) xs.length c ∧ xs.length ≤ c ∧ (0 < xs.length → a.block < B) ∧ ∀ i u, xs[i]? = some u → w.cell? (a.add i) = some (val u)

section
variable {α : Type} {val : α → Value}
theorem Arr.nil_ (w : World) (B : Nat) : Arr val w B (.slice none 0 0) [] := .inl ⟨rfl, rfl⟩
theorem Arr.keep {w w' : World} {B : Nat} {v : Value} {xs : List α} (h : Arr val w B v xs) (hk : ∀ p : Addr, p.block < B → w'.cell? p = w.cell? p) : Arr val w' B v xs := by
  rcases h with h | ⟨a, c, e, hl, hb, hc⟩
  · exact .inl h
  · exact .inr ⟨a, c, e, hl, hb, fun i u hu => (hk _ (by rw [add_block]; exact hb (by have := (List.getElem?_eq_some_iff.1 hu).1; omega))).trans (hc i u hu)⟩
theorem Arr.below {w w' : World} {B : Nat} {v : Value} {xs : List α} (h : Arr val w B v xs) (hb : Below B w w') : Arr val w' B v xs := h.keep fun _ hp => hb.cell hp
theorem Arr.more {w : World} {B B' : Nat} {v : Value} {xs : List α} (h : Arr val w B v xs) (hB : B ≤ B') : Arr val w B' v xs := by
  rcases h with h | ⟨a, c, e, hl, hb, hc⟩
  · exact .inl h
  · exact .inr ⟨a, c, e, hl, fun h => by have := hb h; omega, hc⟩
/-- A slice that was there when W stood, in a later world; and as one that stands below that world. -/
theorem Arr.at_ {W w : World} {v : Value} {xs : List α} (h : Arr val W W.heap.size v xs) (hb : Below W.heap.size W w) : Arr val w W.heap.size v xs := h.below hb
theorem Arr.up {W w : World} {v : Value} {xs : List α} (h : Arr val W W.heap.size v xs) (hb : Below W.heap.size W w) : Arr val w w.heap.size v xs := (h.below hb).more hb.size
theorem Arr.drewN {w : World} {B : Nat} {v : Value} {xs : List α} (h : Arr val w B v xs) (n : Nat) : Arr val (w.drewN n) B v xs := h
theorem Arr.drew {w : World} {B : Nat} {v : Value} {xs : List α} (h : Arr val w B v xs) : Arr val w.drew B v xs := h
theorem Arr.of_own {w : World} {base e : Nat} {v : Value} {xs : List α} (h : w.ownsRow base e 1 v xs.length (xs.map val)) : Arr val w w.heap.size v xs := by
  rcases h.2 with ⟨hv, h0⟩ | ⟨g, cap, cur, hv, _, hg, hc, _, hsz, htake⟩
  · exact .inl ⟨hv, List.length_eq_zero_iff.1 h0⟩
  · refine .inr ⟨_, cap, hv, hc, fun _ => (Array.getElem?_eq_some_iff.1 hg).1, fun i u hu => ?_⟩
    rw [plain_add, Go.cell_of_row w g i cur e (0, 0) hg]
    have hi : i < xs.length := (List.getElem?_eq_some_iff.1 hu).1
    have h2 : (xs.map val)[i]? = some (val u) := by rw [List.getElem?_map, hu]; rfl
    rw [← htake, List.getElem?_take, if_pos (by omega)] at h2
    rw [← Array.getElem?_toList]
    exact h2
theorem Arr.form {w : World} {B : Nat} {v : Value} {xs : List α} (h : Arr val w B v xs) : ∃ A c, v = .slice A xs.length c := by
  rcases h with ⟨e, rfl⟩ | ⟨a, c, e, _⟩
  · exact ⟨_, _, e⟩
  · exact ⟨_, _, e⟩
theorem Arr.len {w : World} {B n c : Nat} {A : Option Addr} {xs : List α} (h : Arr val w B (.slice A n c) xs) : xs.length = n := by
  rcases h with ⟨e, rfl⟩ | ⟨a, c', e, _⟩
  · injection e with _ e2 _; exact e2.symm
  · injection e with _ e2 _; exact e2.symm
theorem Arr.cap {w : World} {B n c : Nat} {A : Option Addr} {xs : List α} (h : Arr val w B (.slice A n c) xs) : n ≤ c := by
  have hl := h.len
  rcases h with ⟨e, rfl⟩ | ⟨a, c', e, hc, _⟩
  · simp at hl; omega
  · injection e with _ _ e3; omega
/-- A slice with elements: its address written out. -/
theorem Arr.some_ {w : World} {B n c : Nat} {A : Option Addr} {xs : List α} (h : Arr val w B (.slice A n c) xs) (h0 : 0 < n) :
    ∃ b off, A = some ⟨b, off, none⟩ ∧ b < B ∧ ∀ i u, xs[i]? = some u → w.cell? ⟨b, off + i, none⟩ = some (val u) := by
  have hl := h.len
  rcases h with ⟨e, _⟩ | ⟨a, c', e, _, hb, hc⟩
  · injection e with _ e2 _; omega
  · injection e with e1 e2 e3
    have hcell := hc 0 _ (List.getElem?_eq_getElem (show 0 < xs.length by omega))
    obtain ⟨b, off, spot⟩ := a
    have hspot : spot = none := by simpa [Addr.add] using World.cell?_spot hcell
    subst hspot
    refine ⟨b, off, e1, hb (by omega), fun i u hu => ?_⟩
    rw [← add_plain]
    exact hc i u hu
theorem Arr.head {w : World} {B N n c : Nat} {A : Option Addr} {xs : List α} (h : Arr val w B (.slice A n c) xs) (hN : N ≤ n) : Arr val w B (.slice A N c) (xs.take N) := by
  have hn := h.len
  have hl : (xs.take N).length = N := by rw [List.length_take]; omega
  rcases h with ⟨e, rfl⟩ | ⟨a, c', e, hc, hb, hcell⟩
  · injection e with e1 e2 e3
    subst e1 e2 e3
    obtain rfl : N = 0 := by omega
    exact .inl ⟨rfl, rfl⟩
  · injection e with e1 e2 e3
    subst e1 e2 e3
    refine .inr ⟨a, c, by rw [hl], by omega, fun h0 => hb (by omega), fun i u hu => hcell i u ?_⟩
    rw [List.getElem?_take] at hu
    split at hu
    · exact hu
    · cases hu
theorem Arr.of_box {w : World} {g n c : Nat} {t : TypeId} {cs : Array Value} {xs : List α} (hb : Box w g t cs) (hn : xs.length = n) (hc : n ≤ c) (h : ∀ (i : Nat) (u : α), xs[i]? = some u → cs[i]? = some (val u)) : Arr val w (g + 1) (.slice (some ⟨g, 0, none⟩) n c) xs := by
  subst hn
  exact .inr ⟨⟨g, 0, none⟩, c, rfl, hc, fun _ => by simp, fun i u hu => by rw [plain_add, hb.cell]; exact h i u hu⟩
end

/-! Slice expressions. -/
theorem slice_head {P : Program} (t : TypeId) (ht : P.underlying t = some (.slice (P.elem t))) (hs : ∀ W, (sizeOf (P.elem t)).run P W = .ok 1 W) (A : Option Addr) (n c N : Nat) (hN : N ≤ c) (W : World) :
    (Instr.sliceAt t (.slice A n c) none (some (.int .i64 (N : Int))) none).run P W = .ok (.slice A N c) W := by
  rw [run_sliceAt_slice W _ _ _ _ _ ht, run_slice_h W _ A n c ht .i64 (N : Int) (by omega) (by omega), hs]
  simp only [Result.andThen, sliced, Int.toNat_natCast, Nat.zero_mul, Nat.sub_zero]
  cases A with
  | none => simp
  | some a => simp [add_zero_]
theorem slice_tail {P : Program} (t : TypeId) (ht : P.underlying t = some (.slice (P.elem t))) (hs : ∀ W, (sizeOf (P.elem t)).run P W = .ok 1 W) (b off n m c : Nat) (hm : m ≤ n) (hc : m < c) (W : World) :
    (Instr.sliceAt t (.slice (some ⟨b, off, none⟩) n c) (some (.int .i64 (m : Int))) none none).run P W = .ok (.slice (some ⟨b, off + m, none⟩) (n - m) (c - m)) W := by
  rw [run_sliceAt_slice W _ _ _ _ _ ht, run_slice_l W _ _ n c ht .i64 (m : Int) (by omega) (by omega), hs]
  simp only [Result.andThen, sliced, Int.toNat_natCast, Nat.mul_one]
  rw [if_neg (by omega), Option.map_some, add_plain]

/-! make. -/
/-- c cells that hold z. -/
def madeOf (z : Value) (c : Nat) : Array Value := madeCells z.cells c
theorem madeOf_size (z : Value) (c : Nat) : (madeOf z c).size = c := size_madeCells _ _
theorem make_run {P : Program} (t e : TypeId) (z : Value) (bytes : Nat) (ht : P.underlying t = some (.slice e)) (info : (P.info? e).map (fun i => (i.zero, i.size, i.bytes)) = some (some z, 1, bytes))
    (l c : Nat) (hlc : l ≤ c) (hc : c ≤ 1000000) (hb : bytes ≤ 1000) (W : World) :
    (Instr.makeSlice t (.int .i64 (l : Int)) (.int .i64 (c : Int))).run P W = .ok (.slice (some ⟨W.heap.size, 0, none⟩) l c) (W.alloc (.cells (madeOf z c) e)) := by
  obtain ⟨i0, hi, hz0, hz1, hz2⟩ := info_parts info
  have hbc : (i0.bytes : Int) * (c : Int) ≤ 281474976710656 := by
    rw [hz2]
    have h1 : bytes * c ≤ 1000 * 1000000 := Nat.mul_le_mul hb hc
    have h2 : ((bytes * c : Nat) : Int) ≤ 281474976710656 := by omega
    simpa using h2
  have := run_makeSlice (P := P) W t e i0 z ht hi hz0 .i64 .i64 (l : Int) (c : Int) (by omega) (by omega) (by rw [hz1]; omega) hbc (by omega)
  rw [this, hz1]
  simp [madeOf]

/-! append: of a whole slice, of one new cell. -/
theorem append_arr {P : Program} {α : Type} {val : α → Value} (t e : TypeId) (z : Value) (bytes : Nat) (ht : P.underlying t = some (.slice e)) (info : (P.info? e).map (fun i => (i.zero, i.size, i.bytes)) = some (some z, 1, bytes))
    (hzs : z.cells.size = 1) (hbytes : bytes ≤ 100) (hval : ∀ x, (val x).oneCell' = true)
    {ops : Array Oper} {rest : List Oper} {o : Oper} {a : Act} {Q : Exit → Act → World → Prop} (w : World) (hgd : o.guard = none) (s x : Operand)
    (ho : o.op = .call { callee := .builtin .append, args := #[s, x], argTypes := #[t, t] })
    (base B : Nat) (v : Value) (xs : List α) (hs : a.eval s = v) (hown : w.ownsRow base e 1 v xs.length (xs.map val))
    (news : List α) (src : Value) (hx : a.eval x = src) (hsl : Arr val w B src news) (hlen : xs.length + news.length ≤ 1000000000000) (hbase : base ≤ w.heap.size)
    (h : ∀ v' w', w'.ownsRow base e 1 v' (xs ++ news).length ((xs ++ news).map val) → Below base w w' → wpList P ops Q rest (a.put o.dst v') w') : wpList P ops Q (o :: rest) a w := by
  obtain ⟨i0, hi, hz0, hz1, hz2⟩ := info_parts info
  rcases hsl with ⟨rfl, rfl⟩ | ⟨ad, c, rfl, _, _, hc⟩
  · refine wpList_append_own_none hgd s x t ho base e i0 1 ht hi v xs.length (xs.map val) hs hown hx ?_
    exact h v w (by rw [List.append_nil]; exact hown) (Below.refl _ _)
  · refine wpList_append_own w hgd s x t ho base e i0 z 1 bytes ht hi hz0 hz1 hz2 hzs (by decide) v xs.length (xs.map val) hs hown ad news.length c (news.map val) hx (by simp) ?_ ?_ (by unfold maxLen; omega) ?_ hbase ?_
    · intro j u hu
      rw [List.getElem?_map] at hu
      cases hj : news[j]? with
      | none => rw [hj] at hu; simp at hu
      | some y => rw [hj] at hu; simp at hu; rw [hc j y hj, hu]
    · intro u hu
      obtain ⟨y, _, rfl⟩ := List.mem_map.1 hu
      exact hval y
    · have := Nat.mul_le_mul hlen hbytes
      omega
    · intro v' w' h1 h2 _
      exact h v' w' (by rw [List.length_append, List.map_append]; exact h1) ((Below.refl _ _).grown h2 hbase fun k hk => (hown.lt k hk).1)

/-- append(s, y): the new element stands in a block of its own, the last one made. -/
theorem append_one {P : Program} {α : Type} {val : α → Value} (t e : TypeId) (z : Value) (bytes : Nat) (ht : P.underlying t = some (.slice e)) (info : (P.info? e).map (fun i => (i.zero, i.size, i.bytes)) = some (some z, 1, bytes))
    (hzs : z.cells.size = 1) (hbytes : bytes ≤ 100) (hval : ∀ x, (val x).oneCell' = true)
    {ops : Array Oper} {rest : List Oper} {o : Oper} {a : Act} {Q : Exit → Act → World → Prop} (w : World) (hgd : o.guard = none) (s x : Operand)
    (ho : o.op = .call { callee := .builtin .append, args := #[s, x], argTypes := #[t, t] })
    (base : Nat) (v : Value) (xs : List α) (hs : a.eval s = v) (hown : w.ownsRow base e 1 v xs.length (xs.map val)) (y : α) (u : Value) (hu : u = val y)
    (hx : a.eval x = .slice (some ⟨w.heap.size, 0, none⟩) 1 1) (hlen : xs.length ≤ 1000000000000 - 1) (hbase : base ≤ w.heap.size)
    (h : ∀ v' w', w'.ownsRow base e 1 v' (xs ++ [y]).length ((xs ++ [y]).map val) → Below base w w' → wpList P ops Q rest (a.put o.dst v') w') : wpList P ops Q (o :: rest) a (w.alloc (.cells #[u] e)) := by
  refine append_arr t e z bytes ht info hzs hbytes hval (w.alloc (.cells #[u] e)) hgd s x ho base (w.heap.size + 1) v xs hs (own_keep_below hown ((Below.refl _ _).alloc (Nat.le_refl _) _)) [y] _ hx (Arr.of_box (Box.made _ _ _) rfl (Nat.le_refl _) ?_) (by simp; omega) (by simp; omega) ?_
  · intro i q hq
    cases i with
    | zero => simp at hq; subst hq; rw [hu]; rfl
    | succ i => simp at hq
  · intro v' w' h1 h2
    exact h v' w' h1 (((Below.refl _ _).alloc hbase _).trans h2)

/-- The same as a step of a region that draws its order. -/
theorem step_append {P : Program} {α : Type} {val : α → Value} (t e : TypeId) (z : Value) (bytes : Nat) (ht : P.underlying t = some (.slice e)) (info : (P.info? e).map (fun i => (i.zero, i.size, i.bytes)) = some (some z, 1, bytes))
    (hzs : z.cells.size = 1) (hbytes : bytes ≤ 100) (hval : ∀ x, (val x).oneCell' = true)
    {ops : Array Oper} {o : Oper} {a : Act} {K : Act → World → Prop} {Q : Exit → Act → World → Prop} {E : Prop} (w : World) (hgd : o.guard = none) (s x : Operand)
    (ho : o.op = .call { callee := .builtin .append, args := #[s, x], argTypes := #[t, t] })
    (base B : Nat) (v : Value) (xs : List α) (hs : a.eval s = v) (hown : w.ownsRow base e 1 v xs.length (xs.map val))
    (news : List α) (src : Value) (hx : a.eval x = src) (hsl : Arr val w B src news) (hlen : xs.length + news.length ≤ 1000000000000) (hbase : base ≤ w.heap.size)
    (h : ∀ v' w', w'.ownsRow base e 1 v' (xs ++ news).length ((xs ++ news).map val) → Below base w w' → K (a.put o.dst v') w') :
    if Region.wanted o (yielded ops a.tmps) = true then Oper.wp P o a w K Q else E := by
  have hw : Region.wanted o (yielded ops a.tmps) = true := by simp [Region.wanted, hgd]
  rw [if_pos hw]
  obtain ⟨i0, hi, hz0, hz1, hz2⟩ := info_parts info
  rcases hsl with ⟨rfl, rfl⟩ | ⟨ad, c, rfl, _, _, hc⟩
  · have hrun := run_append_owned_none (P := P) (w := w) base t o.type e i0 1 ht hi v xs.length (xs.map val) hown
    unfold Oper.wp
    simp [execOp, ho, resolve, invoke, builtin, hs, hx, hrun, Result.andThen]
    exact h v w (by rw [List.append_nil]; exact hown) (Below.refl _ _)
  · refine wp_append_own w s x t ho base e i0 z 1 bytes ht hi hz0 hz1 hz2 hzs (by decide) v xs.length (xs.map val) hs hown ad news.length c (news.map val) hx (by simp) ?_ ?_ (by unfold maxLen; omega) ?_ hbase ?_
    · intro j u hu
      rw [List.getElem?_map] at hu
      cases hj : news[j]? with
      | none => rw [hj] at hu; simp at hu
      | some y => rw [hj] at hu; simp at hu; rw [hc j y hj, hu]
    · intro u hu
      obtain ⟨y, _, rfl⟩ := List.mem_map.1 hu
      exact hval y
    · have := Nat.mul_le_mul hlen hbytes
      omega
    · intro v' w' h1 h2 _
      exact h v' w' (by rw [List.length_append, List.map_append]; exact h1) ((Below.refl _ _).grown h2 hbase fun k hk => (hown.lt k hk).1)

/-! Bytes to a string. -/
theorem conv_bytes {P : Program} {w : World} {B : Nat} {v : Value} {bs : List UInt8} (h : Arr bv w B v bs) (src e dst : TypeId)
    (hs : P.underlying src = some (.slice e)) (he : P.underlying e = some (.int .u8)) (hd : P.underlying dst = some .string) :
    (convert src dst v).run P w = .ok (.string (str bs)) w := by
  rcases h with ⟨rfl, rfl⟩ | ⟨a, c, rfl, _, _, hc⟩
  · rw [run_convert_bytes_string w src dst e none 0 0 hs he hd]
    simp [Conv.bytesToString, str]; rfl
  · rw [run_convert_bytes_string w src dst e (some a) bs.length c hs he hd]
    have hl : (loadCells a bs.length).run P w = .ok ((bs.map fun u => (u.toNat : Int)).map (Value.int .u8)).toArray w := by
      have := run_loadCells_list (P := P) w a (bs.map bv) (fun j v hj => by
        rw [List.getElem?_map] at hj
        cases hu : bs[j]? with
        | none => rw [hu] at hj; simp at hj
        | some u => rw [hu] at hj; rw [hc j u hu]; simpa using hj)
      have e1 : (bs.map fun u => (u.toNat : Int)).map (Value.int .u8) = bs.map bv := by rw [List.map_map]; rfl
      rw [e1]
      simpa using this
    rw [run_bytesToString w a bs.length c _ hl, foldl_push_bytes]
    have e2 : ((bs.map fun u => (u.toNat : Int)).map fun n => UInt8.ofNat n.toNat) = bs := by
      rw [List.map_map]
      conv => rhs; rw [← List.map_id bs]
      apply List.map_congr_left
      intro a _
      simp
    rw [e2]
    simp [str, ByteArray.empty, ByteArray.emptyWithCapacity]
    rfl

theorem one_bv (c : UInt8) : (bv c).oneCell' = true := rfl
theorem one_iv (n : Int) : (iv n).oneCell' = true := rfl
theorem one_sv (s : List UInt8) : (sv s).oneCell' = true := rfl
theorem wraps_i64 (n : Int) (h0 : -9223372036854775808 ≤ n) (h1 : n < 9223372036854775808) : IntKind.i64.wrap n = n := by rw [IntKind.wrap_i64]; omega

end Go.Proofs.Ytlloofmmblhnjaa
