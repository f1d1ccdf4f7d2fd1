/-
  The common words at slices of integers of this program.
-/
import Derived.Test.YtpgaebdaakllaaaDoorWords
import Derived.Test.YtpgaebdaakllaaaDoorProg
import Derived.Deep.QuietTactic
import Derived.BigQuiet
namespace Go.Proofs.YtpgaebdaakllaaaDoor
open Go.RowKit

/-- A digit as the model holds it. -/
def nv (d : Nat) : Value := .int .i64 (d : Int)
theorem one_nv (n : Nat) : (nv n).oneCell' = true := rfl
theorem info_int : (Tryd.prog.info? 3).map (fun i => (i.zero, i.size, i.bytes)) = some (some (.int .i64 0), 1, 8) := by kernel_rfl
theorem elem_ints : Tryd.prog.underlying 27 = some (.slice (Tryd.prog.elem 27)) := by kernel_rfl
theorem size_elem_int (W : World) : (sizeOf (Tryd.prog.elem 27)).run Tryd.prog W = .ok 1 W := by kernel_rfl

theorem Arr.nat {w : World} {B : Nat} {v : Value} {l : List Nat} (h : Arr iv w B v (l.map fun d : Nat => (d : Int))) : Arr nv w B v l := by
  rcases h with ⟨e, h0⟩ | ⟨a, c, e, hl, hb, hc⟩
  · exact .inl ⟨e, by simpa using h0⟩
  · rw [List.length_map] at e hl hb
    exact .inr ⟨a, c, e, hl, hb, fun i u hu => hc i u (by rw [List.getElem?_map, hu]; rfl)⟩
theorem Arr.int {w : World} {B : Nat} {v : Value} {l : List Nat} (h : Arr nv w B v l) : Arr iv w B v (l.map fun d : Nat => (d : Int)) := by
  rcases h with ⟨e, h0⟩ | ⟨a, c, e, hl, hb, hc⟩
  · exact .inl ⟨e, by rw [h0]; rfl⟩
  · refine .inr ⟨a, c, by rw [List.length_map]; exact e, by rw [List.length_map]; exact hl, by rw [List.length_map]; exact hb, fun i u hu => ?_⟩
    rw [List.getElem?_map] at hu
    cases hi : l[i]? with
    | none => rw [hi] at hu; simp at hu
    | some d => rw [hi] at hu; simp at hu; subst hu; exact hc i d hi

theorem head_ints (A : Option Addr) (n c N : Nat) (hN : N ≤ c) (W : World) :
    (Instr.sliceAt 27 (.slice A n c) none (some (.int .i64 (N : Int))) none).run Tryd.prog W = .ok (.slice A N c) W := slice_head _ elem_ints size_elem_int A n c N hN W
theorem make_ints (l c : Nat) (hlc : l ≤ c) (hc : c ≤ 1000000) (W : World) :
    (Instr.makeSlice 27 (.int .i64 (l : Int)) (.int .i64 (c : Int))).run Tryd.prog W = .ok (.slice (some ⟨W.heap.size, 0, none⟩) l c) (W.alloc (.cells (madeOf (.int .i64 0) c) 3)) :=
  make_run 27 3 (.int .i64 0) 8 Tryd.underlying27 info_int l c hlc hc (by decide) W

/-- append of a whole slice of digits onto a row of the call's own. -/
theorem append_ints {ops : Array Oper} {rest : List Oper} {o : Oper} {a : Act} {Q : Exit → Act → World → Prop} (w : World) (hgd : o.guard = none) (s x : Operand)
    (ho : o.op = .call { callee := .builtin .append, args := #[s, x], argTypes := #[27, 27] })
    (base B : Nat) (v : Value) (xs : List Nat) (hs : a.eval s = v) (hown : w.ownsRow base 3 1 v xs.length (xs.map nv))
    (news : List Nat) (src : Value) (hx : a.eval x = src) (hsl : Arr nv w B src news) (hlen : xs.length + news.length ≤ 1000000000000) (hbase : base ≤ w.heap.size)
    (h : ∀ v' w', w'.ownsRow base 3 1 v' (xs ++ news).length ((xs ++ news).map nv) → Below base w w' → wpList Tryd.prog ops Q rest (a.put o.dst v') w') : wpList Tryd.prog ops Q (o :: rest) a w :=
  append_arr 27 3 (.int .i64 0) 8 Tryd.underlying27 info_int rfl (by decide) one_nv w hgd s x ho base B v xs hs hown news src hx hsl hlen hbase h
/-- append of one digit. -/
theorem append_int {ops : Array Oper} {rest : List Oper} {o : Oper} {a : Act} {Q : Exit → Act → World → Prop} (w : World) (hgd : o.guard = none) (s x : Operand)
    (ho : o.op = .call { callee := .builtin .append, args := #[s, x], argTypes := #[27, 27] })
    (base : Nat) (v : Value) (xs : List Nat) (hs : a.eval s = v) (hown : w.ownsRow base 3 1 v xs.length (xs.map nv)) (y : Nat) (u : Value) (hu : u = nv y)
    (hx : a.eval x = .slice (some ⟨w.heap.size, 0, none⟩) 1 1) (hlen : xs.length ≤ 1000000000000 - 1) (hbase : base ≤ w.heap.size)
    (h : ∀ v' w', w'.ownsRow base 3 1 v' (xs ++ [y]).length ((xs ++ [y]).map nv) → Below base w w' → wpList Tryd.prog ops Q rest (a.put o.dst v') w') : wpList Tryd.prog ops Q (o :: rest) a (w.alloc (.cells #[u] 3)) :=
  append_one 27 3 (.int .i64 0) 8 Tryd.underlying27 info_int rfl (by decide) one_nv w hgd s x ho base v xs hs hown y u hu hx hlen hbase h

end Go.Proofs.YtpgaebdaakllaaaDoor
