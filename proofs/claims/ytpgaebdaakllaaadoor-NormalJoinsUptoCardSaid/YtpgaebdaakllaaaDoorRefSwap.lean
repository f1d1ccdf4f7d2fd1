/-
  The reference's decomposed.
-/
import Derived.Test.YtpgaebdaakllaaaDoorRefWhole
import Derived.Test.YtpgaebdaakllaaaDoorGrow
import Derived.BigRegion
import Derived.BigQuiet
namespace Go.Proofs.YtpgaebdaakllaaaDoor
open Go.RowKit

/-- append of one integer; the new row is the old one, or a new block. -/
theorem append_int_w {ops : Array Oper} {rest : List Oper} {o : Oper} {a : Act} {Q : Exit → Act → World → Prop} (w : World) (hgd : o.guard = none) (s x : Operand)
    (ho : o.op = .call { callee := .builtin .append, args := #[s, x], argTypes := #[27, 27] })
    (base : Nat) (v : Value) (xs : List Nat) (hs : a.eval s = v) (hown : w.ownsRow base 3 1 v xs.length (xs.map nv)) (y : Nat) (u : Value) (hu : u = nv y)
    (hx : a.eval x = .slice (some ⟨w.heap.size, 0, none⟩) 1 1) (hlen : xs.length ≤ 1000000000000 - 1) (hbase : base ≤ w.heap.size)
    (h : ∀ v' w', w'.ownsRow base 3 1 v' (xs ++ [y]).length ((xs ++ [y]).map nv) → w.grownBy w' v.ownBlock → (∀ g, v'.ownBlock = some g → v.ownBlock = some g ∨ w.heap.size ≤ g) → wpList Tryd.prog ops Q rest (a.put o.dst v') w') : wpList Tryd.prog ops Q (o :: rest) a (w.alloc (.cells #[u] 3)) :=
  append_one_where 27 3 (.int .i64 0) 8 Tryd.underlying27 info_int rfl (by decide) one_nv w hgd s x ho base v xs hs hown y u hu hx hlen hbase h

section
variable {w : World} {B e n : Nat} {v : Value} {xs : List Value}
/-- A row of the call's own with elements, written out. -/
theorem own_open (h : w.ownsRow B e 1 v n xs) (h0 : 0 < n) : ∃ g cap cur, v = .slice (some ⟨g, 0, none⟩) n cap ∧ B ≤ g ∧ Box w g e cur ∧ n ≤ cap ∧ cap ≤ maxLen ∧ cur.size = cap ∧ cur.toList.take n = xs := by
  rcases h.2 with ⟨_, h1⟩ | ⟨g, cap, cur, hv, hb, hg, hc, hm, hsz, htake⟩
  · omega
  · exact ⟨g, cap, cur, hv, hb, hg, hc, hm, by simpa using hsz, by simpa using htake⟩
end
theorem own_shut {w : World} {B g n cap : Nat} {e : TypeId} {cur : Array Value} {xs : List Value} (hl : xs.length = n) (hb : B ≤ g) (hg : Box w g e cur) (hc : n ≤ cap) (hm : cap ≤ maxLen) (hs : cur.size = cap) (ht : cur.toList.take n = xs) :
    w.ownsRow B e 1 (.slice (some ⟨g, 0, none⟩) n cap) n xs :=
  ⟨by simp; omega, .inr ⟨g, cap, cur, rfl, hb, hg, hc, hm, by simp [hs], by simp [ht]⟩⟩
theorem take_cell {cur : Array Value} {n j x : Nat} {xs : List Nat} (ht : cur.toList.take n = xs.map nv) (hx : xs[j]? = some x) : cur[j]? = some (nv x) := by
  have h : (xs.map nv)[j]? = some (nv x) := by rw [List.getElem?_map, hx]; rfl
  rw [← ht, List.getElem?_take] at h
  split at h
  · rw [← Array.getElem?_toList]; exact h
  · cases h
theorem swap_take {cur : Array Value} {n : Nat} {P Q : List Nat} {p c : Nat} (ht : cur.toList.take n = (P ++ p :: c :: Q).map nv) :
    ((cur.setIfInBounds P.length (nv c)).setIfInBounds (P.length + 1) (nv p)).toList.take n = (P ++ c :: p :: Q).map nv := by
  rw [Array.toList_setIfInBounds, Array.toList_setIfInBounds, List.take_set, List.take_set, ht, ← List.map_set, ← List.map_set]
  congr 1
  rw [List.set_append_right _ _ (by omega), List.set_append_right _ _ (by omega)]
  simp
theorem quiet_add {P : Program} {f : FuncId} {args : Array Value} {w : World} {q n : Nat} {v : Value}
    (h : Calls P f args (w.drewN (q + n)) fun e w' => e = .returned v ∧ ∃ m, w' = (w.drewN (q + n)).drewN m) : Calls P f args (w.drewN (q + n)) fun e w' => e = .returned v ∧ ∃ m, w' = w.drewN (q + m) :=
  h.mono fun _ _ ⟨he, m, hm⟩ => ⟨he, n + m, by rw [hm, World.drewN_drewN, Nat.add_assoc]⟩

/-- append of one integer, the new row written out. -/
theorem append_int_open {ops : Array Oper} {rest : List Oper} {o : Oper} {a : Act} {Q : Exit → Act → World → Prop} (w : World) (hgd : o.guard = none) (s x : Operand)
    (ho : o.op = .call { callee := .builtin .append, args := #[s, x], argTypes := #[27, 27] })
    (base : Nat) (v : Value) (xs : List Nat) (M : Nat) (hM : xs.length = M) (hs : a.eval s = v) (hown : w.ownsRow base 3 1 v xs.length (xs.map nv)) (y : Nat) (u : Value) (hu : u = nv y)
    (hx : a.eval x = .slice (some ⟨w.heap.size, 0, none⟩) 1 1) (hlen : M ≤ 1000000000000 - 1) (hbase : base ≤ w.heap.size)
    (h : ∀ (g cap : Nat) (cur : Array Value) (w' : World), base ≤ g → Box w' g 3 cur → M + 1 ≤ cap → cap ≤ maxLen → cur.size = cap → cur.toList.take (M + 1) = (xs ++ [y]).map nv → w.grownBy w' v.ownBlock → (v.ownBlock = some g ∨ w.heap.size ≤ g) →
      wpList Tryd.prog ops Q rest (a.put o.dst (.slice (some ⟨g, 0, none⟩) (M + 1) cap)) w') : wpList Tryd.prog ops Q (o :: rest) a (w.alloc (.cells #[u] 3)) := by
  refine append_int_w w hgd s x ho base v xs hs hown y u hu hx (by omega) hbase ?_
  intro v' w' h1 h2 h3
  have hl : (xs ++ [y]).length = M + 1 := by rw [List.length_append, hM]; rfl
  rw [hl] at h1
  obtain ⟨g, cap, cur, rfl, k1, k2, k3, k4, k5, k6⟩ := own_open h1 (by omega)
  exact h g cap cur w' k1 k2 k3 k4 k5 k6 h2 (h3 g rfl)

end Go.Proofs.YtpgaebdaakllaaaDoor
