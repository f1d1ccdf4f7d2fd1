/-
  The calls of repertoire and of its reference at values known by what they hold.
-/
import Derived.Test.YtidbkllhlllnnaaDoorMadeList
namespace Go.Proofs.YtidbkllhlllnnaaDoor
open Go.RowKit

/-- In w, the value is a slice that holds these integers. -/
def Ints (w : World) (v : Value) (xs : List Int) : Prop := ∃ A n c, v = .slice A n c ∧ n ≤ 9223372036854775807 ∧ Arr iv w w.heap.size (.slice A n c) xs
theorem Ints.up {w w' : World} {v : Value} {xs : List Int} (h : Ints w v xs) (hb : Below w.heap.size w w') : Ints w' v xs := by
  obtain ⟨A, n, c, e, hn, h1⟩ := h
  exact ⟨A, n, c, e, hn, h1.up hb⟩
theorem Ints.nil_ (w : World) : Ints w (.slice none 0 0) [] := ⟨none, 0, 0, rfl, by omega, Arr.nil_ _ _⟩
theorem Ints.len {w : World} {A : Option Addr} {n c : Nat} {xs : List Int} (h : Ints w (.slice A n c) xs) : xs.length = n := by
  obtain ⟨A, n, c, e, hn, h1⟩ := h
  injection e with _ e2 _
  rw [e2]
  exact h1.len
def castL (l : List Nat) : List Int := l.map fun d : Nat => (d : Int)
theorem castL_len (l : List Nat) : (castL l).length = l.length := List.length_map ..
theorem castL_app (a b : List Nat) : castL (a ++ b) = castL a ++ castL b := List.map_append ..
theorem castL_inj : ∀ {a b : List Nat}, castL a = castL b → a = b
  | [], [], _ => rfl
  | [], _ :: _, h => by simp [castL] at h
  | _ :: _, [], h => by simp [castL] at h
  | x :: a, y :: b, h => by
    have h1 : (x : Int) = y ∧ castL a = castL b := by
      unfold castL at h
      rw [List.map_cons, List.map_cons] at h
      injection h with h1 h2
      exact ⟨h1, h2⟩
    rw [castL_inj h1.2]
    have h2 := h1.1
    congr 1
    omega
def resL : Option (List Nat) → List Int
  | some l => castL l
  | none => []
def resS : Option (List UInt8) → List UInt8
  | some b => b
  | none => []
theorem below_of_drew {w w' : World} (h : ∃ q, w' = w.drewN q) : Below w.heap.size w w' := by
  obtain ⟨q, rfl⟩ := h
  exact below_drewN (Below.refl _ _) q

theorem DecEnd.ints {W w' : World} {r : Option (List Nat)} {e : Ending} (h : DecEnd W r e w') (hl : ∀ l, r = some l → l.length ≤ 1000000) : ∃ u, e = .returned (.tuple #[u, .bool r.isSome]) ∧ Ints w' u (resL r) := by
  cases r with
  | none => exact ⟨_, h, Ints.nil_ _⟩
  | some l =>
    obtain ⟨v, rfl, hown⟩ := h
    have hA := Arr.of_own hown
    obtain ⟨A, c, rfl⟩ := hA.form
    exact ⟨_, rfl, A, _, c, rfl, by have := hl l rfl; omega, hA.int⟩
theorem EncEnd.str {r : Option (List UInt8)} {e : Ending} (h : EncEnd r e) : e = .returned (.tuple #[.string (str (resS r)), .bool r.isSome]) := by
  cases r with
  | none => exact h
  | some l => exact h

theorem prDecode_at (W : World) (hS : Spans W) (s : List UInt8) (r : Option (List Nat)) (w : World) (hk : Below W.heap.size W w) (hs : s.length ≤ 10000) (hr : decR s = r) :
    Calls Tryd.prog 14 #[.string (str s)] w fun e w' => ∃ u, e = .returned (.tuple #[u, .bool r.isSome]) ∧ Ints w' u (resL r) ∧ Below W.heap.size W w' ∧ Below w.heap.size w w' := by
  subst hr
  refine (prDecode_any s w (hS.below hk) hs).mono ?_
  rintro e w' ⟨h1, h2⟩
  obtain ⟨u, h3, h4⟩ := h1.ints fun l hl => by have := dec_len hl; omega
  exact ⟨u, h3, h4, below_next hk h2, h2⟩
theorem refDecode_at (W : World) (s : List UInt8) (r : Option (List Nat)) (w : World) (hk : Below W.heap.size W w) (hs : s.length ≤ 10000) (hr : decR s = r) :
    Calls Tryd.prog 15 #[.string (str s)] w fun e w' => ∃ u, e = .returned (.tuple #[u, .bool r.isSome]) ∧ Ints w' u (resL r) ∧ Below W.heap.size W w' ∧ Below w.heap.size w w' := by
  subst hr
  refine (refDecode_any s w (by omega)).mono ?_
  rintro e w' ⟨h1, h2⟩
  obtain ⟨u, h3, h4⟩ := h1.ints fun l hl => by have := dec_len hl; omega
  exact ⟨u, h3, h4, below_next hk h2, h2⟩
theorem prEncode_at (W : World) (hS : Spans W) (v : Value) (xs : List Int) (r : Option (List UInt8)) (w : World) (hk : Below W.heap.size W w) (h : Ints w v xs) (hl : xs.length ≤ 10000) (hr : encR xs = r) :
    Calls Tryd.prog 22 #[v] w fun e w' => e = .returned (.tuple #[.string (str (resS r)), .bool r.isSome]) ∧ Below W.heap.size W w' ∧ Below w.heap.size w w' := by
  subst hr
  obtain ⟨A, n, c, rfl, hn, h1⟩ := h
  exact (prEncode_any A n c xs w (hS.below hk) h1 (by rw [← h1.len]; exact hl)).mono fun _ _ ⟨h3, h4⟩ => ⟨h3.str, below_next hk h4, h4⟩
theorem refEncode_at (W : World) (v : Value) (xs : List Int) (r : Option (List UInt8)) (w : World) (hk : Below W.heap.size W w) (h : Ints w v xs) (hl : xs.length ≤ 10000) (hr : encR xs = r) :
    Calls Tryd.prog 23 #[v] w fun e w' => e = .returned (.tuple #[.string (str (resS r)), .bool r.isSome]) ∧ Below W.heap.size W w' ∧ Below w.heap.size w w' := by
  subst hr
  obtain ⟨A, n, c, rfl, hn, h1⟩ := h
  exact (refEncode_any A n c xs w h1 (by have := h1.len; omega)).mono fun _ _ ⟨h3, h4⟩ => ⟨h3.str, below_next hk h4, h4⟩
theorem same_at (W : World) (v v' : Value) (xs ys : List Int) (b : Bool) (w : World) (hk : Below W.heap.size W w) (h : Ints w v xs) (h' : Ints w v' ys) (hb : decide (xs = ys) = b) :
    Calls Tryd.prog 16 #[v, v'] w fun e w' => e = .returned (.bool b) ∧ Below W.heap.size W w' ∧ Below w.heap.size w w' := by
  obtain ⟨A, n, c, rfl, hn, h1⟩ := h
  obtain ⟨A', n', c', rfl, hn', h2⟩ := h'
  subst hb
  exact (same_any A A' n n' c c' xs ys w.heap.size w h1 h2 hn hn').mono fun _ _ ⟨h3, h4⟩ => ⟨h3, below_next hk (below_of_drew h4), below_of_drew h4⟩
theorem prClass_at (W : World) (hS : Spans W) (c : Int) (a b : Nat) (w : World) (hk : Below W.heap.size W w) (hr : clsR c = (a, b)) :
    Calls Tryd.prog 11 #[.int .i64 c] w fun e w' => e = .returned (.tuple #[.int .i64 (a : Int), .int .i64 (b : Int)]) ∧ Below W.heap.size W w' ∧ Below w.heap.size w w' := by
  refine (prClass_any c w (hS.below hk)).mono ?_
  rintro e w' ⟨h1, h2⟩
  rw [hr] at h1
  exact ⟨h1, below_next hk h2, h2⟩
theorem refClass_at (W : World) (c : Int) (a b : Nat) (w : World) (hk : Below W.heap.size W w) (hr : clsR c = (a, b)) :
    Calls Tryd.prog 12 #[.int .i64 c] w fun e w' => e = .returned (.tuple #[.int .i64 (a : Int), .int .i64 (b : Int)]) ∧ Below W.heap.size W w' ∧ Below w.heap.size w w' := by
  refine (class_any c w).mono ?_
  rintro e w' ⟨h1, h2⟩
  rw [hr] at h1
  exact ⟨h1, below_next hk (below_of_drew h2), below_of_drew h2⟩
theorem prHas_at (W : World) (hS : Spans W) (c : Int) (b : Bool) (w : World) (hk : Below W.heap.size W w) (hr : hasR c = b) :
    Calls Tryd.prog 13 #[.int .i64 c] w fun e w' => e = .returned (.bool b) ∧ Below W.heap.size W w' ∧ Below w.heap.size w w' := by
  subst hr
  exact (prHas_any c w (hS.below hk)).mono fun _ _ ⟨h1, h2⟩ => ⟨h1, below_next hk h2, h2⟩
theorem refHas_at (W : World) (c : Int) (b : Bool) (w : World) (hk : Below W.heap.size W w) (hr : hasR c = b) :
    Calls Tryd.prog 27 #[.int .i64 c] w fun e w' => e = .returned (.bool b) ∧ Below W.heap.size W w' ∧ Below w.heap.size w w' := by
  subst hr
  exact (has_any c w).mono fun _ _ ⟨h1, h2⟩ => ⟨h1, below_next hk (below_of_drew h2), below_of_drew h2⟩
theorem prCount_at (W : World) (hS : Spans W) (s : List UInt8) (n : Nat) (w : World) (hk : Below W.heap.size W w) (hs : s.length ≤ 10000) (hr : countR s = n) :
    Calls Tryd.prog 17 #[.string (str s)] w fun e w' => e = .returned (.int .i64 (n : Int)) ∧ Below W.heap.size W w' ∧ Below w.heap.size w w' := by
  subst hr
  exact (prCount_any s w (hS.below hk) hs).mono fun _ _ ⟨h1, h2⟩ => ⟨h1, below_next hk h2, h2⟩
theorem prScript_at (W : World) (hS : Spans W) (s : List UInt8) (n : Nat) (w : World) (hk : Below W.heap.size W w) (hr : scriptR s = n) :
    Calls Tryd.prog 20 #[.string (str s)] w fun e w' => e = .returned (.int .i64 (n : Int)) ∧ Below W.heap.size W w' ∧ Below w.heap.size w w' := by
  subst hr
  exact (prScript_any s w (hS.below hk)).mono fun _ _ ⟨h1, h2⟩ => ⟨h1, below_next hk h2, h2⟩
theorem refScript_at (W : World) (s : List UInt8) (n : Nat) (w : World) (hk : Below W.heap.size W w) (hs : s.length ≤ 10000) (hr : scriptR s = n) :
    Calls Tryd.prog 21 #[.string (str s)] w fun e w' => e = .returned (.int .i64 (n : Int)) ∧ Below W.heap.size W w' ∧ Below w.heap.size w w' := by
  subst hr
  exact (refScript_any s w (by omega)).mono fun _ _ ⟨h1, h2⟩ => ⟨h1, below_next hk h2, h2⟩
theorem prValid_at (W : World) (hS : Spans W) (s : List UInt8) (b : Bool) (w : World) (hk : Below W.heap.size W w) (hs : s.length ≤ 10000) (hr : validR s = b) :
    Calls Tryd.prog 18 #[.string (str s)] w fun e w' => e = .returned (.bool b) ∧ Below W.heap.size W w' ∧ Below w.heap.size w w' := by
  subst hr
  exact (prValid_any s w (hS.below hk) hs).mono fun _ _ ⟨h1, h2⟩ => ⟨h1, below_next hk h2, h2⟩
theorem refValid_at (W : World) (s : List UInt8) (b : Bool) (w : World) (hk : Below W.heap.size W w) (hs : s.length ≤ 10000) (hr : validR s = b) :
    Calls Tryd.prog 19 #[.string (str s)] w fun e w' => e = .returned (.bool b) ∧ Below W.heap.size W w' ∧ Below w.heap.size w w' := by
  subst hr
  exact (refValid_any s w (by omega)).mono fun _ _ ⟨h1, h2⟩ => ⟨h1, below_next hk h2, h2⟩
theorem prCut_at (W : World) (hS : Spans W) (s : List UInt8) (n : Int) (t : List UInt8) (w : World) (hk : Below W.heap.size W w) (hn : n ≤ 9223372036854775807) (hr : cutR s n = t) :
    Calls Tryd.prog 24 #[.string (str s), .int .i64 n] w fun e w' => e = .returned (.string (str t)) ∧ Below W.heap.size W w' ∧ Below w.heap.size w w' := by
  subst hr
  exact (prCut_any s n w (hS.below hk) hn).mono fun _ _ ⟨h1, h2⟩ => ⟨h1, below_next hk h2, h2⟩
theorem refCut_at (W : World) (s : List UInt8) (n : Int) (t : List UInt8) (w : World) (hk : Below W.heap.size W w) (hs : s.length ≤ 10000) (hr : cutR s n = t) :
    Calls Tryd.prog 25 #[.string (str s), .int .i64 n] w fun e w' => e = .returned (.string (str t)) ∧ Below W.heap.size W w' ∧ Below w.heap.size w w' := by
  subst hr
  exact (refCut_any s n w (by omega)).mono fun _ _ ⟨h1, h2⟩ => ⟨h1, below_next hk h2, h2⟩

end Go.Proofs.YtidbkllhlllnnaaDoor
