/-
  What the library's strings.Builder and strings.Join do, with the frame that an iterator wants.
  The reference's Join of fold.
-/
import Derived.Test.YtafnjbmeponobaaGreatDoorPkAO
import Derived.Test.YtafnjbmeponobaaGreatDoorPkAY
import Derived.Test.YtafnjbmeponobaaGreatDoorPkAJ
namespace Go.Proofs.YtafnjbmeponobaaGreatDoor
open Go.RowKit

/-- A builder of the call's own that holds these bytes. -/
def Built (B b : Nat) (l : List UInt8) (w : World) : Prop := Lib.IsBuilderF 104 5 B b (Lib.byteCells l) w
/-- All iterators stand as they stood. -/
def Iters (w w' : World) : Prop := ∀ (k : Nat) (s : ByteArray) (p : Nat), w.heap[k]? = some (.stringIter s p) → w'.heap[k]? = some (.stringIter s p)
theorem Iters.refl (w : World) : Iters w w := fun _ _ _ h => h
theorem Iters.trans {a b c : World} (h : Iters a b) (k : Iters b c) : Iters a c := fun i s p hi => k i s p (h i s p hi)
theorem Iters.of_below {w w' : World} (h : Below w.heap.size w w') : Iters w w' := fun k _ _ hk => (h.block k (Array.getElem?_eq_some_iff.1 hk).1).trans hk
theorem Iters.put {w : World} {D : Nat} {t : TypeId} {cs : Array Value} (h : Box w D t cs) (v : Value) : Iters w (w.setCell ⟨D, 0, none⟩ v) := fun k s p hk => by
  have hne : k ≠ D := fun e => by subst e; unfold Box at h; rw [hk] at h; cases h
  exact (Below.heap_setCell w ⟨D, 0, none⟩ v k hne).trans hk
theorem Built.block {B b : Nat} {l : List UInt8} {w : World} (h : Built B b l w) : ∃ c, w.heap[b]? = some (.cells c 104 (0, 0)) := by
  rcases h with ⟨_, v, hb, _⟩ | ⟨_, v, hb, _⟩
  · exact ⟨_, hb⟩
  · exact ⟨_, hb⟩
theorem Built.below {B b : Nat} {l : List UInt8} {w w' : World} (h : Built B b l w) (hb : Below w.heap.size w w') : Built B b l w' := builder_below h hb
theorem Built.fresh (w : World) : Built w.heap.size w.heap.size [] (w.alloc (.cells #[.pointer none, .slice none 0 0] 104)) := Lib.IsBuilderF.of (Lib.fresh_isBuilder _ _ w)
theorem Built.iterAt {B b : Nat} {l : List UInt8} {w : World} (h : Built B b l w) {k : Nat} {s : ByteArray} {pos : Nat} (hk : w.heap[k]? = some (.stringIter s pos)) (pos' : Nat) : Built B b l (w.iterAt k s pos') := Lib.IsBuilderF.iterAt h hk pos'
theorem Built.drewN {B b : Nat} {l : List UInt8} {w : World} (h : Built B b l w) (n : Nat) : Built B b l (w.drewN n) := h
/-- A store into a block that is neither the builder's nor a row of bytes. -/
theorem Built.put {B b D : Nat} {l : List UInt8} {w : World} {t : TypeId} {cs : Array Value} (h : Built B b l w) (hD : Box w D t cs) (ht : t ≠ 5) (hb : D ≠ b) (v : Value) : Built B b l (w.setCell ⟨D, 0, none⟩ v) := by
  have key : ∀ p, Lib.BuilderAtF 104 5 B b p (Lib.byteCells l) w → Lib.BuilderAtF 104 5 B b p (Lib.byteCells l) (w.setCell ⟨D, 0, none⟩ v) := by
    rintro p ⟨hB, x, hbk, hown, hne⟩
    refine ⟨hB, x, (Below.heap_setCell w ⟨D, 0, none⟩ v b (fun e => hb e.symm)).trans hbk, ⟨hown.1, ?_⟩, hne⟩
    rcases hown.2 with hn | ⟨g, cap, cur, fz, hv, hbg, hg, rest⟩
    · exact .inl hn
    · refine .inr ⟨g, cap, cur, fz, hv, hbg, (Below.heap_setCell w ⟨D, 0, none⟩ v g (fun e => ?_)).trans hg, rest⟩
      simp only at e
      subst e
      unfold Box at hD
      rw [hD] at hg
      injection hg with h1
      injection h1 with _ h2 _
      exact ht h2
  exact h.elim (fun x => .inl (key _ x)) (fun x => .inr (key _ x))
theorem Box.kept {w w' : World} {D b : Nat} {t : TypeId} {cs : Array Value} (h : Box w D t cs) (hk : Lib.OthersKept 5 (some b) w w') (ht : t ≠ 5) (hb : D ≠ b) : Box w' D t cs :=
  hk D _ h (fun e => hb (Option.some.inj e)) (fun c fz e => by injection e with _ e2 _; exact ht e2)
theorem Iters.of_kept {B b : Nat} {l : List UInt8} {w w' : World} (h : Built B b l w) (hk : Lib.OthersKept 5 (some b) w w') : Iters w w' := fun k s p hi => by
  obtain ⟨c, hb⟩ := h.block
  exact hk.iter hi (fun e => by subst e; rw [hb] at hi; cases hi)

theorem writeRune_k (B b : Nat) (l : List UInt8) (c : Nat) (w : World) (hc : hasR (c : Int) = true) (h : Built B b l w) (hlen : l.length ≤ 100000000) (hBw : B ≤ w.heap.size) :
    Calls Tryz.prog 88 #[.pointer (some ⟨b, 0, none⟩), .int .i32 (c : Int)] w fun e w' => (∃ n : Int, e = .returned (.tuple #[.int .i64 n, .nilIface])) ∧ Built B b (l ++ encC c) w' ∧ Below B w w' ∧ Lib.OthersKept 5 (some b) w w' := by
  have hr := has_range hc
  have h1 := Any.Builder_WriteRune_k runeLays buildExtra B b (Lib.byteCells l) (c : Int) (by omega) (by omega) w h (by rw [Lib.byteCells_length]; omega) hBw
  have h2 : Calls Tryz.prog 88 #[.pointer (some ⟨b, 0, none⟩), .int .i32 (c : Int)] w _ := h1
  refine h2.mono ?_
  rintro e w' ⟨rfl, h3, h4, h5⟩
  refine ⟨⟨_, rfl⟩, ?_, h4, h5⟩
  unfold Built
  rw [Lib.byteCells_append, ← rune_enc hc, Lib.byteCells_encodeRune]
  exact .inr h3
theorem writeStr_k (B b : Nat) (l s : List UInt8) (w : World) (h : Built B b l w) (hlen : l.length ≤ 100000000) (hs : s.length ≤ 100000000) (hBw : B ≤ w.heap.size) :
    Calls Tryz.prog 87 #[.pointer (some ⟨b, 0, none⟩), .string (str s)] w fun e w' => (∃ n : Int, e = .returned (.tuple #[.int .i64 n, .nilIface])) ∧ Built B b (l ++ s) w' ∧ Below B w w' ∧ Lib.OthersKept 5 (some b) w w' := by
  have h1 := Any.Builder_WriteString_k wstrLays buildExtra6 B b (Lib.byteCells l) (str s) w h (by rw [Lib.byteCells_length, str_size]; omega) hBw
  have h2 : Calls Tryz.prog 87 #[.pointer (some ⟨b, 0, none⟩), .string (str s)] w _ := h1
  refine h2.mono ?_
  rintro e w' ⟨rfl, h3, h4, h5⟩
  refine ⟨⟨_, rfl⟩, ?_, h4, h5⟩
  unfold Built
  rw [Lib.byteCells_append]
  exact .inr h3
theorem writeByte_k (B b : Nat) (l : List UInt8) (c : UInt8) (w : World) (h : Built B b l w) (hlen : l.length ≤ 100000000) (hBw : B ≤ w.heap.size) :
    Calls Tryz.prog 111 #[.pointer (some ⟨b, 0, none⟩), .int .u8 (c.toNat : Int)] w fun e w' => e = .returned .nilIface ∧ Built B b (l ++ [c]) w' ∧ Below B w w' ∧ Lib.OthersKept 5 (some b) w w' := by
  have h1 := Any.Builder_WriteByte_k wbyteLays buildExtra6 B b (Lib.byteCells l) (c.toNat : Int) w h (by rw [Lib.byteCells_length]; omega) hBw
  have h2 : Calls Tryz.prog 111 #[.pointer (some ⟨b, 0, none⟩), .int .u8 (c.toNat : Int)] w _ := h1
  refine h2.mono ?_
  rintro e w' ⟨rfl, h3, h4, h5⟩
  refine ⟨rfl, ?_, h4, h5⟩
  unfold Built
  rw [Lib.byteCells_append]
  exact .inr h3
theorem buildLen_k (B b : Nat) (l : List UInt8) (w : World) (h : Built B b l w) :
    Calls Tryz.prog 113 #[.pointer (some ⟨b, 0, none⟩)] w fun e w' => e = .returned (.int .i64 (l.length : Int)) ∧ w' = w := by
  have h1 := Any.Builder_Len_f blenLays B b (Lib.byteCells l) w h
  rw [Lib.byteCells_length] at h1
  exact h1
theorem buildStr_k (B b : Nat) (l : List UInt8) (w : World) (h : Built B b l w) (hBw : B ≤ w.heap.size) :
    Calls Tryz.prog 89 #[.pointer (some ⟨b, 0, none⟩)] w fun e w' => e = .returned (.string (str l)) ∧ Below B w w' := buildString_any B b l w h hBw

end Go.Proofs.YtafnjbmeponobaaGreatDoor

namespace Go.Proofs.YtafnjbmeponobaaGreatDoor
open Go.RowKit

theorem sqT_len : ∀ (l : List Nat) (p : Bool), (sqT p l).length ≤ 2 * l.length
  | [], _ => by simp [sqT]
  | c :: l, p => by
    have h1 := sqT_len l true
    have h2 := sqT_len l false
    rw [sqT]
    split
    · rw [List.length_cons]; omega
    · rw [List.length_append, List.length_cons, List.length_cons]
      have : (if p = true then [32] else ([] : List Nat)).length ≤ 1 := by split <;> simp
      omega
theorem sq_len : ∀ l : List Nat, (sq l).length ≤ 2 * l.length
  | [] => by simp [sq]
  | c :: l => by
    have h1 := sq_len l
    have h2 := sqT_len l false
    rw [sq]
    split
    · rw [List.length_cons]; omega
    · rw [List.length_cons, List.length_cons]; omega
theorem tok_len (c : Nat) : (tokL c).length ≤ 2 := by
  unfold tokL
  split
  · simp
  split
  · exact plain_len c
  · simp
theorem toks_len : ∀ l : List Nat, (l.flatMap tokL).length ≤ 2 * l.length
  | [] => by simp
  | c :: l => by
    have h1 := toks_len l
    have h2 := tok_len c
    rw [List.flatMap_cons, List.length_append, List.length_cons]
    omega
theorem nSearch_len (s : List UInt8) : (nSearch s).length ≤ 48 * s.length := by
  have h1 := nFL_len s
  have h2 := toks_len (nFL s)
  have h3 := sq_len ((nFL s).flatMap tokL)
  have h4 := encL_len (nSL s)
  have e : nSL s = sq ((nFL s).flatMap tokL) := rfl
  rw [← e] at h3
  unfold nSearch
  omega
theorem step_nil (O : List UInt8) : joinStep O [] = O := by unfold joinStep; rw [if_neg (fun h => h.1 rfl), List.append_nil]
theorem step_out (y : List UInt8) : joinStep [] y = y := by unfold joinStep; rw [if_neg (fun h => h.2 rfl), List.nil_append]
theorem step_both {O y : List UInt8} (h : O ≠ []) (h2 : y ≠ []) : joinStep O y = O ++ 32 :: y := by unfold joinStep; rw [if_pos ⟨h2, h⟩]

end Go.Proofs.YtafnjbmeponobaaGreatDoor
