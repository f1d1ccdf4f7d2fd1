/-
  What the library's strings.Builder and strings.Join do, with the frame that an iterator wants.
  The reference's Search, Is, Alike.
  The reference's Is, Alike of fold.
  The reference's Join of fold.
  The program's own Lower and plain of fold.
-/
import Derived.Test.YtmgofhbdaopapaaGreatDoorPkAP
import Derived.Test.YtmgofhbdaopapaaGreatDoorPkAJ
import Derived.Test.YtmgofhbdaopapaaGreatDoorPkAH
import Derived.Laws.Runes
namespace Go.Proofs.YtmgofhbdaopapaaGreatDoor
open Go.RowKit

/-- A builder of the call's own that holds these bytes. -/
def Built (B b : Nat) (l : List UInt8) (w : World) : Prop := Lib.IsBuilderF 57 5 B b (Lib.byteCells l) w
/-- All iterators stand as they stood. -/
def Iters (w w' : World) : Prop := ∀ (k : Nat) (s : ByteArray) (p : Nat), w.heap[k]? = some (.stringIter s p) → w'.heap[k]? = some (.stringIter s p)
theorem Iters.refl (w : World) : Iters w w := fun _ _ _ h => h
theorem Iters.trans {a b c : World} (h : Iters a b) (k : Iters b c) : Iters a c := fun i s p hi => k i s p (h i s p hi)
theorem Iters.of_below {w w' : World} (h : Below w.heap.size w w') : Iters w w' := fun k _ _ hk => (h.block k (Array.getElem?_eq_some_iff.1 hk).1).trans hk
theorem Iters.put {w : World} {D : Nat} {t : TypeId} {cs : Array Value} (h : Box w D t cs) (v : Value) : Iters w (w.setCell ⟨D, 0, none⟩ v) := fun k s p hk => by
  have hne : k ≠ D := fun e => by subst e; unfold Box at h; rw [hk] at h; cases h
  exact (Below.heap_setCell w ⟨D, 0, none⟩ v k hne).trans hk
theorem Built.block {B b : Nat} {l : List UInt8} {w : World} (h : Built B b l w) : ∃ c, w.heap[b]? = some (.cells c 57 (0, 0)) := by
  rcases h with ⟨_, v, hb, _⟩ | ⟨_, v, hb, _⟩
  · exact ⟨_, hb⟩
  · exact ⟨_, hb⟩
theorem Built.below {B b : Nat} {l : List UInt8} {w w' : World} (h : Built B b l w) (hb : Below w.heap.size w w') : Built B b l w' := builder_below h hb
theorem Built.fresh (w : World) : Built w.heap.size w.heap.size [] (w.alloc (.cells #[.pointer none, .slice none 0 0] 57)) := Lib.IsBuilderF.of (Lib.fresh_isBuilder _ _ w)
theorem Built.iterAt {B b : Nat} {l : List UInt8} {w : World} (h : Built B b l w) {k : Nat} {s : ByteArray} {pos : Nat} (hk : w.heap[k]? = some (.stringIter s pos)) (pos' : Nat) : Built B b l (w.iterAt k s pos') := Lib.IsBuilderF.iterAt h hk pos'
theorem Built.drewN {B b : Nat} {l : List UInt8} {w : World} (h : Built B b l w) (n : Nat) : Built B b l (w.drewN n) := h
/-- A store into a block that is neither the builder's nor a row of bytes. -/
theorem Built.put {B b D : Nat} {l : List UInt8} {w : World} {t : TypeId} {cs : Array Value} (h : Built B b l w) (hD : Box w D t cs) (ht : t ≠ 5) (hb : D ≠ b) (v : Value) : Built B b l (w.setCell ⟨D, 0, none⟩ v) := by
  have key : ∀ p, Lib.BuilderAtF 57 5 B b p (Lib.byteCells l) w → Lib.BuilderAtF 57 5 B b p (Lib.byteCells l) (w.setCell ⟨D, 0, none⟩ v) := by
    rintro p ⟨hB, x, hbk, hown, hne⟩
    refine ⟨hB, x, (Below.heap_setCell w ⟨D, 0, none⟩ v b (fun e => hb e.symm)).trans hbk, ⟨hown.1, ?_⟩, hne⟩
    rcases hown.2 with hn | ⟨g, cap, cur, fz, hv, hbg, hg, rest⟩
    · exact .inl hn
    · refine .inr ⟨g, cap, cur, fz, hv, hbg, (Below.heap_setCell w ⟨D, 0, none⟩ v g (fun e => ?_)).trans hg, rest⟩
      simp only at e
      subst e
      unfold Box at hD
      rw [hD] at hg
      injection hg with h1
      injection h1 with _ h2 _
      exact ht h2
  exact h.elim (fun x => .inl (key _ x)) (fun x => .inr (key _ x))
theorem Box.kept {w w' : World} {D b : Nat} {t : TypeId} {cs : Array Value} (h : Box w D t cs) (hk : Lib.OthersKept 5 (some b) w w') (ht : t ≠ 5) (hb : D ≠ b) : Box w' D t cs :=
  hk D _ h (fun e => hb (Option.some.inj e)) (fun c fz e => by injection e with _ e2 _; exact ht e2)
theorem Iters.of_kept {B b : Nat} {l : List UInt8} {w w' : World} (h : Built B b l w) (hk : Lib.OthersKept 5 (some b) w w') : Iters w w' := fun k s p hi => by
  obtain ⟨c, hb⟩ := h.block
  exact hk.iter hi (fun e => by subst e; rw [hb] at hi; cases hi)

theorem writeRune_k (B b : Nat) (l : List UInt8) (c : Nat) (w : World) (hc : hasR (c : Int) = true) (h : Built B b l w) (hlen : l.length ≤ 100000000) (hBw : B ≤ w.heap.size) :
    Calls Tryz.prog 73 #[.pointer (some ⟨b, 0, none⟩), .int .i32 (c : Int)] w fun e w' => (∃ n : Int, e = .returned (.tuple #[.int .i64 n, .nilIface])) ∧ Built B b (l ++ encC c) w' ∧ Below B w w' ∧ Lib.OthersKept 5 (some b) w w' := by
  have hr := has_range hc
  have h1 := Any.Builder_WriteRune_k runeLays buildExtra B b (Lib.byteCells l) (c : Int) (by omega) (by omega) w h (by rw [Lib.byteCells_length]; omega) hBw
  have h2 : Calls Tryz.prog 73 #[.pointer (some ⟨b, 0, none⟩), .int .i32 (c : Int)] w _ := h1
  refine h2.mono ?_
  rintro e w' ⟨rfl, h3, h4, h5⟩
  refine ⟨⟨_, rfl⟩, ?_, h4, h5⟩
  unfold Built
  rw [Lib.byteCells_append, ← rune_enc hc, Lib.byteCells_encodeRune]
  exact .inr h3
theorem writeStr_k (B b : Nat) (l s : List UInt8) (w : World) (h : Built B b l w) (hlen : l.length ≤ 100000000) (hs : s.length ≤ 100000000) (hBw : B ≤ w.heap.size) :
    Calls Tryz.prog 45 #[.pointer (some ⟨b, 0, none⟩), .string (str s)] w fun e w' => (∃ n : Int, e = .returned (.tuple #[.int .i64 n, .nilIface])) ∧ Built B b (l ++ s) w' ∧ Below B w w' ∧ Lib.OthersKept 5 (some b) w w' := by
  have h1 := Any.Builder_WriteString_k wstrLays buildExtra6 B b (Lib.byteCells l) (str s) w h (by rw [Lib.byteCells_length, str_size]; omega) hBw
  have h2 : Calls Tryz.prog 45 #[.pointer (some ⟨b, 0, none⟩), .string (str s)] w _ := h1
  refine h2.mono ?_
  rintro e w' ⟨rfl, h3, h4, h5⟩
  refine ⟨⟨_, rfl⟩, ?_, h4, h5⟩
  unfold Built
  rw [Lib.byteCells_append]
  exact .inr h3
theorem writeByte_k (B b : Nat) (l : List UInt8) (c : UInt8) (w : World) (h : Built B b l w) (hlen : l.length ≤ 100000000) (hBw : B ≤ w.heap.size) :
    Calls Tryz.prog 46 #[.pointer (some ⟨b, 0, none⟩), .int .u8 (c.toNat : Int)] w fun e w' => e = .returned .nilIface ∧ Built B b (l ++ [c]) w' ∧ Below B w w' ∧ Lib.OthersKept 5 (some b) w w' := by
  have h1 := Any.Builder_WriteByte_k wbyteLays buildExtra6 B b (Lib.byteCells l) (c.toNat : Int) w h (by rw [Lib.byteCells_length]; omega) hBw
  have h2 : Calls Tryz.prog 46 #[.pointer (some ⟨b, 0, none⟩), .int .u8 (c.toNat : Int)] w _ := h1
  refine h2.mono ?_
  rintro e w' ⟨rfl, h3, h4, h5⟩
  refine ⟨rfl, ?_, h4, h5⟩
  unfold Built
  rw [Lib.byteCells_append]
  exact .inr h3
theorem buildLen_k (B b : Nat) (l : List UInt8) (w : World) (h : Built B b l w) :
    Calls Tryz.prog 51 #[.pointer (some ⟨b, 0, none⟩)] w fun e w' => e = .returned (.int .i64 (l.length : Int)) ∧ w' = w := by
  have h1 := Any.Builder_Len_f blenLays B b (Lib.byteCells l) w h
  rw [Lib.byteCells_length] at h1
  exact h1
theorem buildStr_k (B b : Nat) (l : List UInt8) (w : World) (h : Built B b l w) (hBw : B ≤ w.heap.size) :
    Calls Tryz.prog 47 #[.pointer (some ⟨b, 0, none⟩)] w fun e w' => e = .returned (.string (str l)) ∧ Below B w w' := buildString_any B b l w h hBw

end Go.Proofs.YtmgofhbdaopapaaGreatDoor

namespace Go.Proofs.YtmgofhbdaopapaaGreatDoor
open Go.RowKit

/-! The loop of Search: what is out, whether a blank is due, what is left. -/
theorem sqT_word (R : List Nat) : ∀ p : List Nat, (∀ y ∈ p, y ≠ 32) → sqT false (p ++ R) = p ++ sqT false R
  | [], _ => rfl
  | y :: p, h => by rw [List.cons_append, sqT_f (h y (by simp)), sqT_word R p fun z hz => h z (by simp [hz])]; rfl
def sqz (O : List Nat) (sp : Bool) (R : List Nat) : List Nat := if O = [] then sq R else O ++ sqT sp R
theorem sqz_nil (O : List Nat) (sp : Bool) : sqz O sp [] = O := by
  unfold sqz
  by_cases h : O = []
  · rw [if_pos h, h]; rfl
  · rw [if_neg h]; simp [sqT]
theorem sqz_sp (O : List Nat) (sp : Bool) (R : List Nat) : sqz O sp (32 :: R) = sqz O true R := by unfold sqz; rw [sq_sp, sqT_sp]
theorem sqz_f {O : List Nat} {sp : Bool} {p : List Nat} (hp : p ≠ [] ∧ ∀ y ∈ p, y ≠ 32) (h : O = [] ∨ sp = false) (R : List Nat) : sqz O sp (p ++ R) = sqz (O ++ p) false R := by
  obtain ⟨y, q, rfl⟩ : ∃ y q, p = y :: q := by
    cases p with
    | nil => exact absurd rfl hp.1
    | cons y q => exact ⟨y, q, rfl⟩
  have hq : ∀ z ∈ q, z ≠ 32 := fun z hz => hp.2 z (by simp [hz])
  unfold sqz
  rw [if_neg (show ¬ O ++ y :: q = [] by simp)]
  by_cases h0 : O = []
  · subst h0
    rw [if_pos rfl, List.cons_append, sq_cons (hp.2 y (by simp)), sqT_word R q hq]
    rfl
  · have hs : sp = false := h.resolve_left h0
    subst hs
    rw [if_neg h0, sqT_word R (y :: q) hp.2, List.append_assoc]
theorem sqz_t {O p : List Nat} (hp : p ≠ [] ∧ ∀ y ∈ p, y ≠ 32) (h : O ≠ []) (R : List Nat) : sqz O true (p ++ R) = sqz ((O ++ [32]) ++ p) false R := by
  obtain ⟨y, q, rfl⟩ : ∃ y q, p = y :: q := by
    cases p with
    | nil => exact absurd rfl hp.1
    | cons y q => exact ⟨y, q, rfl⟩
  have hq : ∀ z ∈ q, z ≠ 32 := fun z hz => hp.2 z (by simp [hz])
  unfold sqz
  rw [if_neg h, if_neg (show ¬ (O ++ [32]) ++ y :: q = [] by simp), List.cons_append, sqT_t (hp.2 y (by simp)), sqT_word R q hq]
  simp
theorem pl_nsp : ∀ x ∈ plL, x.2 ≠ 32 := by decide
theorem lkN_in (ps : List (Nat × Nat)) (c : Nat) : lkN ps c = 0 ∨ ∃ x ∈ ps, lkN ps c = x.2 := by
  unfold lkN
  cases hf : ps.find? fun x => Nat.beq x.1 c with
  | none => exact .inl rfl
  | some x => exact .inr ⟨x, List.mem_of_find?_eq_some hf, rfl⟩
theorem plain_word {c : Nat} (h : c ≠ 32) : plainL c ≠ [] ∧ ∀ y ∈ plainL c, y ≠ 32 := by
  rw [plain_if]
  split
  · decide
  split
  · decide
  split
  · decide
  split
  · decide
  split
  · simpa using h
  · rcases lkN_in plL c with h1 | ⟨x, h1, h2⟩
    · contradiction
    · rw [h2]
      simpa using pl_nsp x h1
theorem plain_len (c : Nat) : (plainL c).length ≤ 2 := by
  rw [plain_if]
  repeat' split
  all_goals simp
theorem ld_nsp {c : Nat} (h : isLD c = true) : c ≠ 32 := by
  intro e
  rw [e] at h
  have : isLD 32 = false := by decide +kernel
  rw [this] at h
  cases h
theorem drop_at6 {l : List Nat} {k x : Nat} (h : l[k]? = some x) : l.drop k = x :: l.drop (k + 1) := by
  obtain ⟨hl, he⟩ := List.getElem?_eq_some_iff.1 h
  rw [List.drop_eq_getElem_cons hl, he]

end Go.Proofs.YtmgofhbdaopapaaGreatDoor

namespace Go.Proofs.YtmgofhbdaopapaaGreatDoor
open Go.RowKit

def nIs6 (s : List UInt8) : Bool := decide (s ≠ []) && decide (nSearch s = s)
def nAlike (s t : List UInt8) : Bool := decide (nSearch s ≠ []) && decide (nSearch s = nSearch t)
theorem str_beq_nil {a : List UInt8} (h : a ≠ []) : ((str a).toList == []) = false := by
  rw [str_toList]
  cases a with
  | nil => exact absurd rfl h
  | cons x a => rfl

end Go.Proofs.YtmgofhbdaopapaaGreatDoor

namespace Go.Proofs.YtmgofhbdaopapaaGreatDoor
open Go.RowKit

theorem sqT_len : ∀ (l : List Nat) (p : Bool), (sqT p l).length ≤ 2 * l.length
  | [], _ => by simp [sqT]
  | c :: l, p => by
    have h1 := sqT_len l true
    have h2 := sqT_len l false
    rw [sqT]
    split
    · rw [List.length_cons]; omega
    · rw [List.length_append, List.length_cons, List.length_cons]
      have : (if p = true then [32] else ([] : List Nat)).length ≤ 1 := by split <;> simp
      omega
theorem sq_len : ∀ l : List Nat, (sq l).length ≤ 2 * l.length
  | [] => by simp [sq]
  | c :: l => by
    have h1 := sq_len l
    have h2 := sqT_len l false
    rw [sq]
    split
    · rw [List.length_cons]; omega
    · rw [List.length_cons, List.length_cons]; omega
theorem tok_len (c : Nat) : (tokL c).length ≤ 2 := by
  unfold tokL
  split
  · simp
  split
  · exact plain_len c
  · simp
theorem toks_len : ∀ l : List Nat, (l.flatMap tokL).length ≤ 2 * l.length
  | [] => by simp
  | c :: l => by
    have h1 := toks_len l
    have h2 := tok_len c
    rw [List.flatMap_cons, List.length_append, List.length_cons]
    omega
theorem nSearch_len (s : List UInt8) : (nSearch s).length ≤ 48 * s.length := by
  have h1 := nFL_len s
  have h2 := toks_len (nFL s)
  have h3 := sq_len ((nFL s).flatMap tokL)
  have h4 := encL_len (nSL s)
  have e : nSL s = sq ((nFL s).flatMap tokL) := rfl
  rw [← e] at h3
  unfold nSearch
  omega
theorem step_nil (O : List UInt8) : joinStep O [] = O := by unfold joinStep; rw [if_neg (fun h => h.1 rfl), List.append_nil]
theorem step_out (y : List UInt8) : joinStep [] y = y := by unfold joinStep; rw [if_neg (fun h => h.2 rfl), List.nil_append]
theorem step_both {O y : List UInt8} (h : O ≠ []) (h2 : y ≠ []) : joinStep O y = O ++ 32 :: y := by unfold joinStep; rw [if_pos ⟨h2, h⟩]

end Go.Proofs.YtmgofhbdaopapaaGreatDoor

namespace Go.Proofs.YtmgofhbdaopapaaGreatDoor
open Go.RowKit

set_option maxRecDepth 20000 in
set_option maxHeartbeats 1600000 in
theorem prLow_198 (w : World) : Calls Tryz.prog 105 #[.int .i64 198] w fun e w' => e = .returned (.int .i64 230) ∧ w = w' := by
  go_enter Tryz.func105, Tryz.ntmps105
  go_wp2
  go_ret
  exact ⟨rfl, rfl⟩
set_option maxRecDepth 20000 in
set_option maxHeartbeats 1600000 in
theorem prLow_216 (w : World) : Calls Tryz.prog 105 #[.int .i64 216] w fun e w' => e = .returned (.int .i64 248) ∧ w = w' := by
  go_enter Tryz.func105, Tryz.ntmps105
  go_wp2
  go_ret
  exact ⟨rfl, rfl⟩
set_option maxRecDepth 20000 in
set_option maxHeartbeats 1600000 in
theorem prLow_208 (w : World) : Calls Tryz.prog 105 #[.int .i64 208] w fun e w' => e = .returned (.int .i64 240) ∧ w = w' := by
  go_enter Tryz.func105, Tryz.ntmps105
  go_wp2
  go_ret
  exact ⟨rfl, rfl⟩
set_option maxRecDepth 20000 in
set_option maxHeartbeats 1600000 in
theorem prLow_222 (w : World) : Calls Tryz.prog 105 #[.int .i64 222] w fun e w' => e = .returned (.int .i64 254) ∧ w = w' := by
  go_enter Tryz.func105, Tryz.ntmps105
  go_wp2
  go_ret
  exact ⟨rfl, rfl⟩
set_option maxRecDepth 20000 in
set_option maxHeartbeats 1600000 in
theorem prLow_272 (w : World) : Calls Tryz.prog 105 #[.int .i64 272] w fun e w' => e = .returned (.int .i64 273) ∧ w = w' := by
  go_enter Tryz.func105, Tryz.ntmps105
  go_wp2
  go_ret
  exact ⟨rfl, rfl⟩
set_option maxRecDepth 20000 in
set_option maxHeartbeats 1600000 in
theorem prLow_294 (w : World) : Calls Tryz.prog 105 #[.int .i64 294] w fun e w' => e = .returned (.int .i64 295) ∧ w = w' := by
  go_enter Tryz.func105, Tryz.ntmps105
  go_wp2
  go_ret
  exact ⟨rfl, rfl⟩
set_option maxRecDepth 20000 in
set_option maxHeartbeats 1600000 in
theorem prLow_321 (w : World) : Calls Tryz.prog 105 #[.int .i64 321] w fun e w' => e = .returned (.int .i64 322) ∧ w = w' := by
  go_enter Tryz.func105, Tryz.ntmps105
  go_wp2
  go_ret
  exact ⟨rfl, rfl⟩
set_option maxRecDepth 20000 in
set_option maxHeartbeats 1600000 in
theorem prLow_338 (w : World) : Calls Tryz.prog 105 #[.int .i64 338] w fun e w' => e = .returned (.int .i64 339) ∧ w = w' := by
  go_enter Tryz.func105, Tryz.ntmps105
  go_wp2
  go_ret
  exact ⟨rfl, rfl⟩
set_option maxRecDepth 20000 in
set_option maxHeartbeats 1600000 in
theorem prLow_330 (w : World) : Calls Tryz.prog 105 #[.int .i64 330] w fun e w' => e = .returned (.int .i64 331) ∧ w = w' := by
  go_enter Tryz.func105, Tryz.ntmps105
  go_wp2
  go_ret
  exact ⟨rfl, rfl⟩
set_option maxRecDepth 20000 in
set_option maxHeartbeats 1600000 in
theorem prLow_358 (w : World) : Calls Tryz.prog 105 #[.int .i64 358] w fun e w' => e = .returned (.int .i64 359) ∧ w = w' := by
  go_enter Tryz.func105, Tryz.ntmps105
  go_wp2
  go_ret
  exact ⟨rfl, rfl⟩
set_option maxRecDepth 20000 in
set_option maxHeartbeats 1600000 in
theorem prLow_1030 (w : World) : Calls Tryz.prog 105 #[.int .i64 1030] w fun e w' => e = .returned (.int .i64 1110) ∧ w = w' := by
  go_enter Tryz.func105, Tryz.ntmps105
  go_wp2
  go_ret
  exact ⟨rfl, rfl⟩
set_option maxRecDepth 20000 in
set_option maxHeartbeats 1600000 in
theorem prLow_1028 (w : World) : Calls Tryz.prog 105 #[.int .i64 1028] w fun e w' => e = .returned (.int .i64 1108) ∧ w = w' := by
  go_enter Tryz.func105, Tryz.ntmps105
  go_wp2
  go_ret
  exact ⟨rfl, rfl⟩
set_option maxRecDepth 20000 in
set_option maxHeartbeats 1600000 in
theorem prLow_1168 (w : World) : Calls Tryz.prog 105 #[.int .i64 1168] w fun e w' => e = .returned (.int .i64 1169) ∧ w = w' := by
  go_enter Tryz.func105, Tryz.ntmps105
  go_wp2
  go_ret
  exact ⟨rfl, rfl⟩
set_option maxRecDepth 20000 in
set_option maxHeartbeats 1600000 in
theorem prLow_962 (w : World) : Calls Tryz.prog 105 #[.int .i64 962] w fun e w' => e = .returned (.int .i64 963) ∧ w = w' := by
  go_enter Tryz.func105, Tryz.ntmps105
  go_wp2
  go_ret
  exact ⟨rfl, rfl⟩
set_option maxRecDepth 20000 in
set_option maxHeartbeats 1600000 in
theorem prLow_r65 (c : Int) (w : World) (h1 : 65 ≤ c) (h2 : c ≤ 90) : Calls Tryz.prog 105 #[.int .i64 c] w fun e w' => e = .returned (.int .i64 (c + 32)) ∧ w = w' := by
  have g65 : decide (65 ≤ c) = true := by simp; omega
  have g90 : decide (c ≤ 90) = true := by simp; omega
  go_enter Tryz.func105, Tryz.ntmps105
  go_wp2
  go_ret
  exact ⟨rfl, rfl⟩
set_option maxRecDepth 20000 in
set_option maxHeartbeats 1600000 in
theorem prLow_r913 (c : Int) (w : World) (h1 : 913 ≤ c) (h2 : c ≤ 929) : Calls Tryz.prog 105 #[.int .i64 c] w fun e w' => e = .returned (.int .i64 (c + 32)) ∧ w = w' := by
  have g65 : decide (65 ≤ c) = true := by simp; omega
  have g90 : decide (c ≤ 90) = false := by simp; omega
  have g913 : decide (913 ≤ c) = true := by simp; omega
  have g929 : decide (c ≤ 929) = true := by simp; omega
  go_enter Tryz.func105, Tryz.ntmps105
  go_wp2
  go_ret
  exact ⟨rfl, rfl⟩
set_option maxRecDepth 20000 in
set_option maxHeartbeats 1600000 in
theorem prLow_r931 (c : Int) (w : World) (h1 : 931 ≤ c) (h2 : c ≤ 937) : Calls Tryz.prog 105 #[.int .i64 c] w fun e w' => e = .returned (.int .i64 (c + 32)) ∧ w = w' := by
  have g65 : decide (65 ≤ c) = true := by simp; omega
  have g90 : decide (c ≤ 90) = false := by simp; omega
  have g913 : decide (913 ≤ c) = true := by simp; omega
  have g929 : decide (c ≤ 929) = false := by simp; omega
  have g931 : decide (931 ≤ c) = true := by simp; omega
  have g937 : decide (c ≤ 937) = true := by simp; omega
  go_enter Tryz.func105, Tryz.ntmps105
  go_wp2
  go_ret
  exact ⟨rfl, rfl⟩
set_option maxRecDepth 20000 in
set_option maxHeartbeats 1600000 in
theorem prLow_r1040 (c : Int) (w : World) (h1 : 1040 ≤ c) (h2 : c ≤ 1071) : Calls Tryz.prog 105 #[.int .i64 c] w fun e w' => e = .returned (.int .i64 (c + 32)) ∧ w = w' := by
  have g65 : decide (65 ≤ c) = true := by simp; omega
  have g90 : decide (c ≤ 90) = false := by simp; omega
  have g913 : decide (913 ≤ c) = true := by simp; omega
  have g929 : decide (c ≤ 929) = false := by simp; omega
  have g931 : decide (931 ≤ c) = true := by simp; omega
  have g937 : decide (c ≤ 937) = false := by simp; omega
  have g1040 : decide (1040 ≤ c) = true := by simp; omega
  have g1071 : decide (c ≤ 1071) = true := by simp; omega
  go_enter Tryz.func105, Tryz.ntmps105
  go_wp2
  go_ret
  exact ⟨rfl, rfl⟩
def lowKeys : List Int := [198, 216, 208, 222, 272, 294, 321, 338, 330, 358, 1030, 1028, 1168, 962]
set_option maxRecDepth 20000 in
set_option maxHeartbeats 1600000 in
theorem prLow_g0 (c : Int) (w : World) (h2 : c ≤ 64) (hk : c ∉ lowKeys) : Calls Tryz.prog 105 #[.int .i64 c] w fun e w' => e = .returned (.int .i64 c) ∧ w = w' := by
  simp only [lowKeys, List.mem_cons, List.not_mem_nil, or_false, not_or] at hk
  obtain ⟨k198, k216, k208, k222, k272, k294, k321, k338, k330, k358, k1030, k1028, k1168, k962⟩ := hk
  have e198 : (c == 198) = false := eqb_false k198
  have e216 : (c == 216) = false := eqb_false k216
  have e208 : (c == 208) = false := eqb_false k208
  have e222 : (c == 222) = false := eqb_false k222
  have e272 : (c == 272) = false := eqb_false k272
  have e294 : (c == 294) = false := eqb_false k294
  have e321 : (c == 321) = false := eqb_false k321
  have e338 : (c == 338) = false := eqb_false k338
  have e330 : (c == 330) = false := eqb_false k330
  have e358 : (c == 358) = false := eqb_false k358
  have e1030 : (c == 1030) = false := eqb_false k1030
  have e1028 : (c == 1028) = false := eqb_false k1028
  have e1168 : (c == 1168) = false := eqb_false k1168
  have e962 : (c == 962) = false := eqb_false k962
  have g65 : decide (65 ≤ c) = false := by simp; omega
  have g913 : decide (913 ≤ c) = false := by simp; omega
  have g931 : decide (931 ≤ c) = false := by simp; omega
  have g1040 : decide (1040 ≤ c) = false := by simp; omega
  clear k198 k216 k208 k222 k272 k294 k321 k338 k330 k358 k1030 k1028 k1168 k962
  go_enter Tryz.func105, Tryz.ntmps105
  go_wp2
  go_ret
  exact ⟨rfl, rfl⟩
set_option maxRecDepth 20000 in
set_option maxHeartbeats 1600000 in
theorem prLow_g91 (c : Int) (w : World) (h1 : 91 ≤ c) (h2 : c ≤ 912) (hk : c ∉ lowKeys) : Calls Tryz.prog 105 #[.int .i64 c] w fun e w' => e = .returned (.int .i64 c) ∧ w = w' := by
  simp only [lowKeys, List.mem_cons, List.not_mem_nil, or_false, not_or] at hk
  obtain ⟨k198, k216, k208, k222, k272, k294, k321, k338, k330, k358, k1030, k1028, k1168, k962⟩ := hk
  have e198 : (c == 198) = false := eqb_false k198
  have e216 : (c == 216) = false := eqb_false k216
  have e208 : (c == 208) = false := eqb_false k208
  have e222 : (c == 222) = false := eqb_false k222
  have e272 : (c == 272) = false := eqb_false k272
  have e294 : (c == 294) = false := eqb_false k294
  have e321 : (c == 321) = false := eqb_false k321
  have e338 : (c == 338) = false := eqb_false k338
  have e330 : (c == 330) = false := eqb_false k330
  have e358 : (c == 358) = false := eqb_false k358
  have e1030 : (c == 1030) = false := eqb_false k1030
  have e1028 : (c == 1028) = false := eqb_false k1028
  have e1168 : (c == 1168) = false := eqb_false k1168
  have e962 : (c == 962) = false := eqb_false k962
  have g65 : decide (65 ≤ c) = true := by simp; omega
  have g90 : decide (c ≤ 90) = false := by simp; omega
  have g913 : decide (913 ≤ c) = false := by simp; omega
  have g931 : decide (931 ≤ c) = false := by simp; omega
  have g1040 : decide (1040 ≤ c) = false := by simp; omega
  clear k198 k216 k208 k222 k272 k294 k321 k338 k330 k358 k1030 k1028 k1168 k962
  go_enter Tryz.func105, Tryz.ntmps105
  go_wp2
  go_ret
  exact ⟨rfl, rfl⟩
set_option maxRecDepth 20000 in
set_option maxHeartbeats 1600000 in
theorem prLow_g930 (c : Int) (w : World) (h1 : 930 ≤ c) (h2 : c ≤ 930) (hk : c ∉ lowKeys) : Calls Tryz.prog 105 #[.int .i64 c] w fun e w' => e = .returned (.int .i64 c) ∧ w = w' := by
  simp only [lowKeys, List.mem_cons, List.not_mem_nil, or_false, not_or] at hk
  obtain ⟨k198, k216, k208, k222, k272, k294, k321, k338, k330, k358, k1030, k1028, k1168, k962⟩ := hk
  have e198 : (c == 198) = false := eqb_false k198
  have e216 : (c == 216) = false := eqb_false k216
  have e208 : (c == 208) = false := eqb_false k208
  have e222 : (c == 222) = false := eqb_false k222
  have e272 : (c == 272) = false := eqb_false k272
  have e294 : (c == 294) = false := eqb_false k294
  have e321 : (c == 321) = false := eqb_false k321
  have e338 : (c == 338) = false := eqb_false k338
  have e330 : (c == 330) = false := eqb_false k330
  have e358 : (c == 358) = false := eqb_false k358
  have e1030 : (c == 1030) = false := eqb_false k1030
  have e1028 : (c == 1028) = false := eqb_false k1028
  have e1168 : (c == 1168) = false := eqb_false k1168
  have e962 : (c == 962) = false := eqb_false k962
  have g65 : decide (65 ≤ c) = true := by simp; omega
  have g90 : decide (c ≤ 90) = false := by simp; omega
  have g913 : decide (913 ≤ c) = true := by simp; omega
  have g929 : decide (c ≤ 929) = false := by simp; omega
  have g931 : decide (931 ≤ c) = false := by simp; omega
  have g1040 : decide (1040 ≤ c) = false := by simp; omega
  clear k198 k216 k208 k222 k272 k294 k321 k338 k330 k358 k1030 k1028 k1168 k962
  go_enter Tryz.func105, Tryz.ntmps105
  go_wp2
  go_ret
  exact ⟨rfl, rfl⟩
set_option maxRecDepth 20000 in
set_option maxHeartbeats 1600000 in
theorem prLow_g938 (c : Int) (w : World) (h1 : 938 ≤ c) (h2 : c ≤ 1039) (hk : c ∉ lowKeys) : Calls Tryz.prog 105 #[.int .i64 c] w fun e w' => e = .returned (.int .i64 c) ∧ w = w' := by
  simp only [lowKeys, List.mem_cons, List.not_mem_nil, or_false, not_or] at hk
  obtain ⟨k198, k216, k208, k222, k272, k294, k321, k338, k330, k358, k1030, k1028, k1168, k962⟩ := hk
  have e198 : (c == 198) = false := eqb_false k198
  have e216 : (c == 216) = false := eqb_false k216
  have e208 : (c == 208) = false := eqb_false k208
  have e222 : (c == 222) = false := eqb_false k222
  have e272 : (c == 272) = false := eqb_false k272
  have e294 : (c == 294) = false := eqb_false k294
  have e321 : (c == 321) = false := eqb_false k321
  have e338 : (c == 338) = false := eqb_false k338
  have e330 : (c == 330) = false := eqb_false k330
  have e358 : (c == 358) = false := eqb_false k358
  have e1030 : (c == 1030) = false := eqb_false k1030
  have e1028 : (c == 1028) = false := eqb_false k1028
  have e1168 : (c == 1168) = false := eqb_false k1168
  have e962 : (c == 962) = false := eqb_false k962
  have g65 : decide (65 ≤ c) = true := by simp; omega
  have g90 : decide (c ≤ 90) = false := by simp; omega
  have g913 : decide (913 ≤ c) = true := by simp; omega
  have g929 : decide (c ≤ 929) = false := by simp; omega
  have g931 : decide (931 ≤ c) = true := by simp; omega
  have g937 : decide (c ≤ 937) = false := by simp; omega
  have g1040 : decide (1040 ≤ c) = false := by simp; omega
  clear k198 k216 k208 k222 k272 k294 k321 k338 k330 k358 k1030 k1028 k1168 k962
  go_enter Tryz.func105, Tryz.ntmps105
  go_wp2
  go_ret
  exact ⟨rfl, rfl⟩
set_option maxRecDepth 20000 in
set_option maxHeartbeats 1600000 in
theorem prLow_g1072 (c : Int) (w : World) (h1 : 1072 ≤ c) (hk : c ∉ lowKeys) : Calls Tryz.prog 105 #[.int .i64 c] w fun e w' => e = .returned (.int .i64 c) ∧ w = w' := by
  simp only [lowKeys, List.mem_cons, List.not_mem_nil, or_false, not_or] at hk
  obtain ⟨k198, k216, k208, k222, k272, k294, k321, k338, k330, k358, k1030, k1028, k1168, k962⟩ := hk
  have e198 : (c == 198) = false := eqb_false k198
  have e216 : (c == 216) = false := eqb_false k216
  have e208 : (c == 208) = false := eqb_false k208
  have e222 : (c == 222) = false := eqb_false k222
  have e272 : (c == 272) = false := eqb_false k272
  have e294 : (c == 294) = false := eqb_false k294
  have e321 : (c == 321) = false := eqb_false k321
  have e338 : (c == 338) = false := eqb_false k338
  have e330 : (c == 330) = false := eqb_false k330
  have e358 : (c == 358) = false := eqb_false k358
  have e1030 : (c == 1030) = false := eqb_false k1030
  have e1028 : (c == 1028) = false := eqb_false k1028
  have e1168 : (c == 1168) = false := eqb_false k1168
  have e962 : (c == 962) = false := eqb_false k962
  have g65 : decide (65 ≤ c) = true := by simp; omega
  have g90 : decide (c ≤ 90) = false := by simp; omega
  have g913 : decide (913 ≤ c) = true := by simp; omega
  have g929 : decide (c ≤ 929) = false := by simp; omega
  have g931 : decide (931 ≤ c) = true := by simp; omega
  have g937 : decide (c ≤ 937) = false := by simp; omega
  have g1040 : decide (1040 ≤ c) = true := by simp; omega
  have g1071 : decide (c ≤ 1071) = false := by simp; omega
  clear k198 k216 k208 k222 k272 k294 k321 k338 k330 k358 k1030 k1028 k1168 k962
  go_enter Tryz.func105, Tryz.ntmps105
  go_wp2
  go_ret
  exact ⟨rfl, rfl⟩
theorem lowI_rng {c : Int} (h : (65 ≤ c ∧ c ≤ 90) ∨ (913 ≤ c ∧ c ≤ 937 ∧ c ≠ 930) ∨ (1040 ≤ c ∧ c ≤ 1071)) : lowI c = c + 32 := by unfold lowI; rw [if_pos h]
theorem lowI_gap {c : Int} (h : ¬ ((65 ≤ c ∧ c ≤ 90) ∨ (913 ≤ c ∧ c ≤ 937 ∧ c ≠ 930) ∨ (1040 ≤ c ∧ c ≤ 1071))) (hk : c ∉ lowKeys) : lowI c = c := by
  simp only [lowKeys, List.mem_cons, List.not_mem_nil, or_false, not_or] at hk
  have hn : lkI lowL c = 0 := lk_none (List.find?_eq_none.2 fun x hx => by
    simp only [lowL, List.mem_cons, List.not_mem_nil, or_false] at hx
    rcases hx with rfl | rfl | rfl | rfl | rfl | rfl | rfl | rfl | rfl | rfl | rfl | rfl | rfl <;> (simp; omega))
  unfold lowI
  rw [if_neg h, if_neg (by omega), if_pos hn]
theorem prLower_s (c : Int) (w : World) : Calls Tryz.prog 105 #[.int .i64 c] w fun e w' => e = .returned (.int .i64 (lowI c)) ∧ w = w' := by
  by_cases hk : c ∈ lowKeys
  · simp only [lowKeys, List.mem_cons, List.not_mem_nil, or_false] at hk
    rcases hk with rfl | rfl | rfl | rfl | rfl | rfl | rfl | rfl | rfl | rfl | rfl | rfl | rfl | rfl
    · rw [show lowI 198 = 230 by decide]; exact prLow_198 w
    · rw [show lowI 216 = 248 by decide]; exact prLow_216 w
    · rw [show lowI 208 = 240 by decide]; exact prLow_208 w
    · rw [show lowI 222 = 254 by decide]; exact prLow_222 w
    · rw [show lowI 272 = 273 by decide]; exact prLow_272 w
    · rw [show lowI 294 = 295 by decide]; exact prLow_294 w
    · rw [show lowI 321 = 322 by decide]; exact prLow_321 w
    · rw [show lowI 338 = 339 by decide]; exact prLow_338 w
    · rw [show lowI 330 = 331 by decide]; exact prLow_330 w
    · rw [show lowI 358 = 359 by decide]; exact prLow_358 w
    · rw [show lowI 1030 = 1110 by decide]; exact prLow_1030 w
    · rw [show lowI 1028 = 1108 by decide]; exact prLow_1028 w
    · rw [show lowI 1168 = 1169 by decide]; exact prLow_1168 w
    · rw [show lowI 962 = 963 by decide]; exact prLow_962 w
  · have hc : c ≤ 64 ∨ (65 ≤ c ∧ c ≤ 90) ∨ (91 ≤ c ∧ c ≤ 912) ∨ (913 ≤ c ∧ c ≤ 929) ∨ c = 930 ∨ (931 ≤ c ∧ c ≤ 937) ∨ (938 ≤ c ∧ c ≤ 1039) ∨ (1040 ≤ c ∧ c ≤ 1071) ∨ 1072 ≤ c := by omega
    rcases hc with hc | hc | hc | hc | hc | hc | hc | hc | hc
    · rw [lowI_gap (by omega) hk]; exact prLow_g0 c w hc hk
    · rw [lowI_rng (by omega)]; exact prLow_r65 c w hc.1 hc.2
    · rw [lowI_gap (by omega) hk]; exact prLow_g91 c w hc.1 hc.2 hk
    · rw [lowI_rng (by omega)]; exact prLow_r913 c w hc.1 hc.2
    · rw [lowI_gap (by omega) hk]; exact prLow_g930 c w (by omega) (by omega) hk
    · rw [lowI_rng (by omega)]; exact prLow_r931 c w hc.1 hc.2
    · rw [lowI_gap (by omega) hk]; exact prLow_g938 c w hc.1 hc.2 hk
    · rw [lowI_rng (by omega)]; exact prLow_r1040 c w hc.1 hc.2
    · rw [lowI_gap (by omega) hk]; exact prLow_g1072 c w hc hk

/-- string(r) at a character of the repertoire. -/
theorem encode_has {c : Nat} (h : hasR (c : Int) = true) : Utf8.encode (c : Int) = str (encC c) := by
  have hr := has_range h
  have hc : c < 65536 := by omega
  have hs : ¬ (55296 ≤ c ∧ c < 57344) := fun hs => by
    have := kind_surrogate hs.1 hs.2
    exact (has_kind.1 h) this
  have hv : Utf8.valid (c : Int) = true := by rw [valid_nat hc]; unfold goodU; simp; omega
  have ht : (c : Int).toNat = c := Int.toNat_natCast c
  unfold Utf8.encode encC
  simp only [hv, if_true, ht]
  by_cases h1 : c < 128
  · rw [if_pos h1, if_pos h1]; rfl
  · rw [if_neg h1, if_neg h1]
    by_cases h2 : c < 2048
    · rw [if_pos h2, if_pos h2]; rfl
    · rw [if_neg h2, if_neg h2, if_pos hc]; rfl
def plKeys : List Nat := [230, 339, 248, 240, 273, 254, 295, 305, 322, 331, 359]
theorem plain_gap {c : Nat} (hk : c ∉ plKeys) : plainL c = [c] := by
  simp only [plKeys, List.mem_cons, List.not_mem_nil, or_false, not_or] at hk
  have hn : lkN plL c = 0 := by
    unfold lkN
    have : (plL.find? fun x => Nat.beq x.1 c) = none := List.find?_eq_none.2 fun x hx => by
      simp only [plL, List.mem_cons, List.not_mem_nil, or_false] at hx
      rcases hx with rfl | rfl | rfl | rfl | rfl | rfl | rfl <;> (simp; omega)
    rw [this]
  rw [plain_if, if_neg (by omega), if_neg (by omega), if_neg (by omega), if_neg (by omega), if_pos hn]
end Go.Proofs.YtmgofhbdaopapaaGreatDoor
