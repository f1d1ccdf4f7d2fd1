/-
  The program's Encode: a strings.Builder, by the library's contracts.
  The numbers of this program for the library's contracts of strings.Builder and strings.Join.
  What the library's strings.Builder and strings.Join do, with the frame that an iterator wants.
  The reference's Search, Is, Alike.
  The reference's Is, Alike of fold.
  The reference's Join of fold.
-/
import Derived.Test.YtmgofhbdaopapaaDoorPkAK
import Derived.Test.YtmgofhbdaopapaaDoorProg
import Derived.WalkKit
import Derived.Shelf.Strings.BuilderK
import Derived.Shelf.Strings.OnBuilder
import Derived.Test.YtmgofhbdaopapaaDoorPkAG
import Derived.Test.YtmgofhbdaopapaaDoorPkAF
namespace Go.Proofs.YtmgofhbdaopapaaDoor
open Go.RowKit

/-- A builder of the call's own stays what it is while new blocks are made. -/
theorem builder_below {T e : TypeId} {B b : Nat} {bs : List Value} {w w' : World} (h : Lib.IsBuilderF T e B b bs w) (hb : Below w.heap.size w w') : Lib.IsBuilderF T e B b bs w' := by
  have key : ∀ p, Lib.BuilderAtF T e B b p bs w → Lib.BuilderAtF T e B b p bs w' := by
    rintro p ⟨h1, v, h2, h3, h4⟩
    exact ⟨h1, v, (hb.block b (Array.getElem?_eq_some_iff.1 h2).1).trans h2, h3.kept (grown_of_below none hb) (by cases v.ownBlock with
      | none => exact .inl rfl
      | some g => exact .inr (by simp)), h4⟩
  exact h.elim (fun h => .inl (key _ h)) (fun h => .inr (key _ h))
theorem u8_ofNat (n : Nat) (z : Int) (h : z.toNat = n) : z.toNat.toUInt8 = UInt8.ofNat n := by rw [h]
theorem rune_enc {c : Nat} (h : hasR (c : Int) = true) : Lib.encodeRune (c : Int) = encC c := by
  have hr := has_range h
  have hc : c < 65536 := by omega
  have hs : ¬ (55296 ≤ c ∧ c < 57344) := fun hs => by
    have := kind_surrogate hs.1 hs.2
    exact (has_kind.1 h) this
  unfold Lib.encodeRune encC
  by_cases h1 : c < 128
  · rw [Lib.encodeRuneZ_one (by omega) (by omega), if_pos h1]
    rfl
  · rw [if_neg h1]
    by_cases h2 : c < 2048
    · rw [Lib.encodeRuneZ_two (by omega) (by omega), if_pos h2]
      simp only [List.map_cons, List.map_nil]
      rw [u8_ofNat (192 + c / 64) _ (by omega), u8_ofNat (128 + c % 64) _ (by omega)]
    · rw [Lib.encodeRuneZ_three (by omega), if_neg h2]
      simp only [List.map_cons, List.map_nil]
      rw [u8_ofNat (224 + c / 4096) _ (by omega), u8_ofNat (128 + c / 64 % 64) _ (by omega), u8_ofNat (128 + c % 64) _ (by omega)]

theorem writeRune_any (B b : Nat) (l : List UInt8) (c : Nat) (w : World) (hc : hasR (c : Int) = true) (h : Lib.IsBuilderF 76 5 B b (Lib.byteCells l) w) (hlen : l.length ≤ 1000000) (hBw : B ≤ w.heap.size) :
    Calls Tryd.prog 53 #[.pointer (some ⟨b, 0, none⟩), .int .i32 (c : Int)] w fun e w' => (∃ n : Int, e = .returned (.tuple #[.int .i64 n, .nilIface])) ∧ Lib.IsBuilderF 76 5 B b (Lib.byteCells (l ++ encC c)) w' ∧ Below B w w' := by
  have hr := has_range hc
  have h1 := Any.Builder_WriteRune_k runeLays buildExtra B b (Lib.byteCells l) (c : Int) (by omega) (by omega) w h (by rw [Lib.byteCells_length]; omega) hBw
  have h2 : Calls Tryd.prog 53 #[.pointer (some ⟨b, 0, none⟩), .int .i32 (c : Int)] w _ := h1
  refine h2.mono ?_
  rintro e w' ⟨rfl, h3, h4, _⟩
  refine ⟨⟨_, rfl⟩, ?_, h4⟩
  rw [Lib.byteCells_append, ← rune_enc hc, Lib.byteCells_encodeRune]
  exact .inr h3
theorem buildString_any (B b : Nat) (l : List UInt8) (w : World) (h : Lib.IsBuilderF 76 5 B b (Lib.byteCells l) w) (hBw : B ≤ w.heap.size) :
    Calls Tryd.prog 55 #[.pointer (some ⟨b, 0, none⟩)] w fun e w' => e = .returned (.string (str l)) ∧ Below B w w' := by
  have h1 := Any.Builder_String_any_k stringLays buildExtra B b l w h hBw
  have h2 : Calls Tryd.prog 55 #[.pointer (some ⟨b, 0, none⟩)] w _ := h1
  refine h2.mono ?_
  rintro e w' ⟨rfl, _, h4, _⟩
  exact ⟨rfl, h4⟩

set_option maxRecDepth 20000 in
set_option maxHeartbeats 1600000 in
theorem prEncode_any (A : Option Addr) (n c : Nat) (xs : List Int) (w : World) (hS : Spans w) (h : Arr iv w w.heap.size (.slice A n c) xs) (hn : n ≤ 10000) :
    Calls Tryd.prog 81 #[.slice A n c] w fun e w' => EncEnd (encR xs) e ∧ Below w.heap.size w w' := by
  have HL := Lib.hid h.len
  obtain ⟨R, hR⟩ : ∃ R, R = encR xs := ⟨_, rfl⟩
  rw [← hR]
  have HR := Lib.hid hR
  clear hR
  go_enter Tryd.func81, Tryd.ntmps81
  go_wp2
  go_loopw [9] (fun i wr => ∃ (k : Nat) (b : List UInt8), k ≤ n ∧ i = .int .i64 (k : Int) ∧ Hid (b = encI (xs.take k)) ∧ Hid ((xs.take k).all hasR = true) ∧
    Lib.IsBuilderF 76 5 w.heap.size w.heap.size (Lib.byteCells b) wr ∧ Below w.heap.size w wr) (fun i _ => n - (intOf i).toNat)
  case atStart =>
    exact ⟨0, [], by omega, rfl, Lib.hid rfl, Lib.hid rfl, Lib.IsBuilderF.of (Lib.fresh_isBuilder _ _ w), (Below.refl _ _).alloc (Nat.le_refl _) _⟩
  case round =>
    obtain ⟨k, b, hk, rfl, HB, HA, HI, hbel⟩ := hrel
    have hbs := hbel.size
    by_cases hlt : k < n
    · have i1 : decide ((k : Int) < (n : Int)) = true := by simp; omega
      obtain ⟨b0, o0, rfl, hB0, hc0⟩ := h.some_ (by omega)
      obtain ⟨x, hx⟩ : ∃ a, xs[k]? = some a := ⟨_, List.getElem?_eq_getElem (by have := HL.out; omega)⟩
      have d0 := (hbel.cell (p := ⟨b0, o0 + k, none⟩) hB0).trans (hc0 k x hx)
      simp only [iv] at d0
      have hS2 : Spans wr := hS.below hbel
      have HH := Lib.hid (prHas_any x wr hS2)
      cases hc : hasR x with
      | false =>
        have HE : Hid (R = none) := Lib.hid (by rw [HR.out, encR_bad hx hc])
        rw [hc] at HH
        clear hc0 hx hc
        go_wp2_with fail
        refine HH.out.mono ?_
        rintro e w1 ⟨rfl, k1⟩
        go_wp2
        go_ret2
        rw [HE.out]
        exact ⟨rfl, below_next hbel k1⟩
      | true =>
        have hr := has_range hc
        obtain ⟨y, rfl⟩ : ∃ y : Nat, x = (y : Int) := ⟨x.toNat, by omega⟩
        have hy : y < 65536 := by omega
        have HB2 : Hid (b ++ encC y = encI (xs.take (k + 1))) := Lib.hid (by rw [take_next hx, encI_snoc, HB.out]; rfl)
        have HA2 := Lib.hid (all_take hx HA.out hc)
        have hbl : b.length ≤ 3 * n := by
          have h1 := encI_len (xs.take k)
          rw [← HB.out, List.length_take] at h1
          omega
        have hW := Lib.hid fun (w1 : World) (k1 : Below wr.heap.size wr w1) => writeRune_any w.heap.size w.heap.size b y w1 hc (builder_below HI k1) (by omega) (by have := k1.size; omega)
        rw [hc] at HH
        clear hc0 hx hc
        go_wp2_with fail
        refine HH.out.mono ?_
        rintro e w1 ⟨rfl, k1⟩
        go_wp2_with fail
        refine (hW.out w1 k1).mono ?_
        rintro e w2 ⟨⟨n2, rfl⟩, HI2, k2⟩
        go_wp2
        go_roundw
        case rel => exact ⟨k + 1, b ++ encC y, by omega, by go_num, HB2, HA2, HI2, (below_next hbel k1).trans k2⟩
        case measure => simp [intOf]; omega
    · obtain rfl : k = n := by omega
      have hall : xs.all hasR = true := by have := HA.out; rwa [List.take_of_length_le (by have := HL.out; omega)] at this
      have hbe : b = encI xs := by have := HB.out; rwa [List.take_of_length_le (by have := HL.out; omega)] at this
      have HE : Hid (R = some b) := Lib.hid (by rw [HR.out, encR_good hall, hbe])
      clear hall hbe
      go_wp2_with fail
      refine (buildString_any w.heap.size w.heap.size b wr HI hbs).mono ?_
      rintro e w2 ⟨rfl, k2⟩
      go_wp2
      go_ret2
      rw [HE.out]
      exact ⟨rfl, hbel.trans k2⟩

end Go.Proofs.YtmgofhbdaopapaaDoor

namespace Go.Proofs.YtmgofhbdaopapaaDoor
open Go.Shelf

def buildRen6 : Go.Shelf.Ren := ⟨fun | 166 => 52 | 240 => 69 | 276 => 82 | n => n, fun | 0 => 0 | 3 => 3 | 4 => 4 | 5 => 5 | 9 => 9 | 20 => 20 | 37 => 74 | 70 => 73 | 72 => 76 | 75 => 78 | 80 => 83 | 127 => 98 | 164 => 116 | n => n, fun  | n => n⟩
theorem wstrLays : Lays.n166 Tryd.prog buildRen6 := {
  mixed := by kernel_rfl,
  f166 := Tryd.func52.trans (congrArg some (by kernel_rfl)),
  f240 := Tryd.func69.trans (congrArg some (by kernel_rfl)),
  f276 := Tryd.func82.trans (congrArg some (by kernel_rfl)),
  t0 := Tryd.underlying0,
  a0 := Tryd.isAgg0,
  z0 := Tryd.sizeOf0,
  v0 := Tryd.zeroValue0,
  t3 := Tryd.underlying3,
  a3 := Tryd.isAgg3,
  z3 := Tryd.sizeOf3,
  v3 := Tryd.zeroValue3,
  t4 := Tryd.underlying4,
  a4 := Tryd.isAgg4,
  z4 := Tryd.sizeOf4,
  v4 := Tryd.zeroValue4,
  t9 := Tryd.underlying9,
  a9 := Tryd.isAgg9,
  z9 := Tryd.sizeOf9,
  v9 := Tryd.zeroValue9,
  t20 := Tryd.underlying20,
  a20 := Tryd.isAgg20,
  z20 := Tryd.sizeOf20,
  v20 := Tryd.zeroValue20,
  t37 := Tryd.underlying74,
  a37 := Tryd.isAgg74,
  z37 := Tryd.sizeOf74,
  v37 := Tryd.zeroValue74,
  t70 := Tryd.underlying73,
  a70 := Tryd.isAgg73,
  z70 := Tryd.sizeOf73,
  v70 := Tryd.zeroValue73,
  t72 := Tryd.underlying76,
  a72 := Tryd.isAgg76,
  z72 := Tryd.sizeOf76,
  v72 := Tryd.zeroValue76,
  t75 := Tryd.underlying78,
  a75 := Tryd.isAgg78,
  z75 := Tryd.sizeOf78,
  v75 := Tryd.zeroValue78,
  t164 := Tryd.underlying116,
  a164 := Tryd.isAgg116,
  z164 := Tryd.sizeOf116,
  v164 := Tryd.zeroValue116
}
theorem buildExtra6 : Builder.Extra Tryd.prog buildRen6 where
  sizeBuilder := by kernel_rfl
  liesBuilder := by kernel_rfl
  t5 := Tryd.underlying5
  a5 := Tryd.isAgg5
  z5 := Tryd.sizeOf5
  v5 := Tryd.zeroValue5
  infoByte := by kernel_rfl
  cellsByte := by kernel_rfl
  sizeByte := by kernel_rfl
  neB5 := by decide

end Go.Proofs.YtmgofhbdaopapaaDoor

namespace Go.Proofs.YtmgofhbdaopapaaDoor
open Go.RowKit

/-- A builder of the call's own that holds these bytes. -/
def Built (B b : Nat) (l : List UInt8) (w : World) : Prop := Lib.IsBuilderF 76 5 B b (Lib.byteCells l) w
/-- All iterators stand as they stood. -/
def Iters (w w' : World) : Prop := ∀ (k : Nat) (s : ByteArray) (p : Nat), w.heap[k]? = some (.stringIter s p) → w'.heap[k]? = some (.stringIter s p)
theorem Iters.refl (w : World) : Iters w w := fun _ _ _ h => h
theorem Iters.trans {a b c : World} (h : Iters a b) (k : Iters b c) : Iters a c := fun i s p hi => k i s p (h i s p hi)
theorem Iters.of_below {w w' : World} (h : Below w.heap.size w w') : Iters w w' := fun k _ _ hk => (h.block k (Array.getElem?_eq_some_iff.1 hk).1).trans hk
theorem Iters.put {w : World} {D : Nat} {t : TypeId} {cs : Array Value} (h : Box w D t cs) (v : Value) : Iters w (w.setCell ⟨D, 0, none⟩ v) := fun k s p hk => by
  have hne : k ≠ D := fun e => by subst e; unfold Box at h; rw [hk] at h; cases h
  exact (Below.heap_setCell w ⟨D, 0, none⟩ v k hne).trans hk
theorem Built.block {B b : Nat} {l : List UInt8} {w : World} (h : Built B b l w) : ∃ c, w.heap[b]? = some (.cells c 76 (0, 0)) := by
  rcases h with ⟨_, v, hb, _⟩ | ⟨_, v, hb, _⟩
  · exact ⟨_, hb⟩
  · exact ⟨_, hb⟩
theorem Built.below {B b : Nat} {l : List UInt8} {w w' : World} (h : Built B b l w) (hb : Below w.heap.size w w') : Built B b l w' := builder_below h hb
theorem Built.fresh (w : World) : Built w.heap.size w.heap.size [] (w.alloc (.cells #[.pointer none, .slice none 0 0] 76)) := Lib.IsBuilderF.of (Lib.fresh_isBuilder _ _ w)
theorem Built.iterAt {B b : Nat} {l : List UInt8} {w : World} (h : Built B b l w) {k : Nat} {s : ByteArray} {pos : Nat} (hk : w.heap[k]? = some (.stringIter s pos)) (pos' : Nat) : Built B b l (w.iterAt k s pos') := Lib.IsBuilderF.iterAt h hk pos'
theorem Built.drewN {B b : Nat} {l : List UInt8} {w : World} (h : Built B b l w) (n : Nat) : Built B b l (w.drewN n) := h
/-- A store into a block that is neither the builder's nor a row of bytes. -/
theorem Built.put {B b D : Nat} {l : List UInt8} {w : World} {t : TypeId} {cs : Array Value} (h : Built B b l w) (hD : Box w D t cs) (ht : t ≠ 5) (hb : D ≠ b) (v : Value) : Built B b l (w.setCell ⟨D, 0, none⟩ v) := by
  have key : ∀ p, Lib.BuilderAtF 76 5 B b p (Lib.byteCells l) w → Lib.BuilderAtF 76 5 B b p (Lib.byteCells l) (w.setCell ⟨D, 0, none⟩ v) := by
    rintro p ⟨hB, x, hbk, hown, hne⟩
    refine ⟨hB, x, (Below.heap_setCell w ⟨D, 0, none⟩ v b (fun e => hb e.symm)).trans hbk, ⟨hown.1, ?_⟩, hne⟩
    rcases hown.2 with hn | ⟨g, cap, cur, fz, hv, hbg, hg, rest⟩
    · exact .inl hn
    · refine .inr ⟨g, cap, cur, fz, hv, hbg, (Below.heap_setCell w ⟨D, 0, none⟩ v g (fun e => ?_)).trans hg, rest⟩
      simp only at e
      subst e
      unfold Box at hD
      rw [hD] at hg
      injection hg with h1
      injection h1 with _ h2 _
      exact ht h2
  exact h.elim (fun x => .inl (key _ x)) (fun x => .inr (key _ x))
theorem Box.kept {w w' : World} {D b : Nat} {t : TypeId} {cs : Array Value} (h : Box w D t cs) (hk : Lib.OthersKept 5 (some b) w w') (ht : t ≠ 5) (hb : D ≠ b) : Box w' D t cs :=
  hk D _ h (fun e => hb (Option.some.inj e)) (fun c fz e => by injection e with _ e2 _; exact ht e2)
theorem Iters.of_kept {B b : Nat} {l : List UInt8} {w w' : World} (h : Built B b l w) (hk : Lib.OthersKept 5 (some b) w w') : Iters w w' := fun k s p hi => by
  obtain ⟨c, hb⟩ := h.block
  exact hk.iter hi (fun e => by subst e; rw [hb] at hi; cases hi)

theorem writeRune_k (B b : Nat) (l : List UInt8) (c : Nat) (w : World) (hc : hasR (c : Int) = true) (h : Built B b l w) (hlen : l.length ≤ 100000000) (hBw : B ≤ w.heap.size) :
    Calls Tryd.prog 53 #[.pointer (some ⟨b, 0, none⟩), .int .i32 (c : Int)] w fun e w' => (∃ n : Int, e = .returned (.tuple #[.int .i64 n, .nilIface])) ∧ Built B b (l ++ encC c) w' ∧ Below B w w' ∧ Lib.OthersKept 5 (some b) w w' := by
  have hr := has_range hc
  have h1 := Any.Builder_WriteRune_k runeLays buildExtra B b (Lib.byteCells l) (c : Int) (by omega) (by omega) w h (by rw [Lib.byteCells_length]; omega) hBw
  have h2 : Calls Tryd.prog 53 #[.pointer (some ⟨b, 0, none⟩), .int .i32 (c : Int)] w _ := h1
  refine h2.mono ?_
  rintro e w' ⟨rfl, h3, h4, h5⟩
  refine ⟨⟨_, rfl⟩, ?_, h4, h5⟩
  unfold Built
  rw [Lib.byteCells_append, ← rune_enc hc, Lib.byteCells_encodeRune]
  exact .inr h3
theorem writeStr_k (B b : Nat) (l s : List UInt8) (w : World) (h : Built B b l w) (hlen : l.length ≤ 100000000) (hs : s.length ≤ 100000000) (hBw : B ≤ w.heap.size) :
    Calls Tryd.prog 52 #[.pointer (some ⟨b, 0, none⟩), .string (str s)] w fun e w' => (∃ n : Int, e = .returned (.tuple #[.int .i64 n, .nilIface])) ∧ Built B b (l ++ s) w' ∧ Below B w w' ∧ Lib.OthersKept 5 (some b) w w' := by
  have h1 := Any.Builder_WriteString_k wstrLays buildExtra6 B b (Lib.byteCells l) (str s) w h (by rw [Lib.byteCells_length, str_size]; omega) hBw
  have h2 : Calls Tryd.prog 52 #[.pointer (some ⟨b, 0, none⟩), .string (str s)] w _ := h1
  refine h2.mono ?_
  rintro e w' ⟨rfl, h3, h4, h5⟩
  refine ⟨⟨_, rfl⟩, ?_, h4, h5⟩
  unfold Built
  rw [Lib.byteCells_append]
  exact .inr h3
theorem buildStr_k (B b : Nat) (l : List UInt8) (w : World) (h : Built B b l w) (hBw : B ≤ w.heap.size) :
    Calls Tryd.prog 55 #[.pointer (some ⟨b, 0, none⟩)] w fun e w' => e = .returned (.string (str l)) ∧ Below B w w' := buildString_any B b l w h hBw

end Go.Proofs.YtmgofhbdaopapaaDoor

namespace Go.Proofs.YtmgofhbdaopapaaDoor
open Go.RowKit

/-! The loop of Search: what is out, whether a blank is due, what is left. -/
theorem sqT_word (R : List Nat) : ∀ p : List Nat, (∀ y ∈ p, y ≠ 32) → sqT false (p ++ R) = p ++ sqT false R
  | [], _ => rfl
  | y :: p, h => by rw [List.cons_append, sqT_f (h y (by simp)), sqT_word R p fun z hz => h z (by simp [hz])]; rfl
def sqz (O : List Nat) (sp : Bool) (R : List Nat) : List Nat := if O = [] then sq R else O ++ sqT sp R
theorem sqz_nil (O : List Nat) (sp : Bool) : sqz O sp [] = O := by
  unfold sqz
  by_cases h : O = []
  · rw [if_pos h, h]; rfl
  · rw [if_neg h]; simp [sqT]
theorem sqz_sp (O : List Nat) (sp : Bool) (R : List Nat) : sqz O sp (32 :: R) = sqz O true R := by unfold sqz; rw [sq_sp, sqT_sp]
theorem sqz_f {O : List Nat} {sp : Bool} {p : List Nat} (hp : p ≠ [] ∧ ∀ y ∈ p, y ≠ 32) (h : O = [] ∨ sp = false) (R : List Nat) : sqz O sp (p ++ R) = sqz (O ++ p) false R := by
  obtain ⟨y, q, rfl⟩ : ∃ y q, p = y :: q := by
    cases p with
    | nil => exact absurd rfl hp.1
    | cons y q => exact ⟨y, q, rfl⟩
  have hq : ∀ z ∈ q, z ≠ 32 := fun z hz => hp.2 z (by simp [hz])
  unfold sqz
  rw [if_neg (show ¬ O ++ y :: q = [] by simp)]
  by_cases h0 : O = []
  · subst h0
    rw [if_pos rfl, List.cons_append, sq_cons (hp.2 y (by simp)), sqT_word R q hq]
    rfl
  · have hs : sp = false := h.resolve_left h0
    subst hs
    rw [if_neg h0, sqT_word R (y :: q) hp.2, List.append_assoc]
theorem sqz_t {O p : List Nat} (hp : p ≠ [] ∧ ∀ y ∈ p, y ≠ 32) (h : O ≠ []) (R : List Nat) : sqz O true (p ++ R) = sqz ((O ++ [32]) ++ p) false R := by
  obtain ⟨y, q, rfl⟩ : ∃ y q, p = y :: q := by
    cases p with
    | nil => exact absurd rfl hp.1
    | cons y q => exact ⟨y, q, rfl⟩
  have hq : ∀ z ∈ q, z ≠ 32 := fun z hz => hp.2 z (by simp [hz])
  unfold sqz
  rw [if_neg h, if_neg (show ¬ (O ++ [32]) ++ y :: q = [] by simp), List.cons_append, sqT_t (hp.2 y (by simp)), sqT_word R q hq]
  simp
theorem pl_nsp : ∀ x ∈ plL, x.2 ≠ 32 := by decide
theorem lkN_in (ps : List (Nat × Nat)) (c : Nat) : lkN ps c = 0 ∨ ∃ x ∈ ps, lkN ps c = x.2 := by
  unfold lkN
  cases hf : ps.find? fun x => Nat.beq x.1 c with
  | none => exact .inl rfl
  | some x => exact .inr ⟨x, List.mem_of_find?_eq_some hf, rfl⟩
theorem plain_word {c : Nat} (h : c ≠ 32) : plainL c ≠ [] ∧ ∀ y ∈ plainL c, y ≠ 32 := by
  rw [plain_if]
  split
  · decide
  split
  · decide
  split
  · decide
  split
  · decide
  split
  · simpa using h
  · rcases lkN_in plL c with h1 | ⟨x, h1, h2⟩
    · contradiction
    · rw [h2]
      simpa using pl_nsp x h1
theorem plain_len (c : Nat) : (plainL c).length ≤ 2 := by
  rw [plain_if]
  repeat' split
  all_goals simp
theorem ld_nsp {c : Nat} (h : isLD c = true) : c ≠ 32 := by
  intro e
  rw [e] at h
  have : isLD 32 = false := by decide +kernel
  rw [this] at h
  cases h
theorem drop_at6 {l : List Nat} {k x : Nat} (h : l[k]? = some x) : l.drop k = x :: l.drop (k + 1) := by
  obtain ⟨hl, he⟩ := List.getElem?_eq_some_iff.1 h
  rw [List.drop_eq_getElem_cons hl, he]

end Go.Proofs.YtmgofhbdaopapaaDoor

namespace Go.Proofs.YtmgofhbdaopapaaDoor
open Go.RowKit

def nIs6 (s : List UInt8) : Bool := decide (s ≠ []) && decide (nSearch s = s)
def nAlike (s t : List UInt8) : Bool := decide (nSearch s ≠ []) && decide (nSearch s = nSearch t)
theorem str_beq_nil {a : List UInt8} (h : a ≠ []) : ((str a).toList == []) = false := by
  rw [str_toList]
  cases a with
  | nil => exact absurd rfl h
  | cons x a => rfl

end Go.Proofs.YtmgofhbdaopapaaDoor

namespace Go.Proofs.YtmgofhbdaopapaaDoor
open Go.RowKit

theorem sqT_len : ∀ (l : List Nat) (p : Bool), (sqT p l).length ≤ 2 * l.length
  | [], _ => by simp [sqT]
  | c :: l, p => by
    have h1 := sqT_len l true
    have h2 := sqT_len l false
    rw [sqT]
    split
    · rw [List.length_cons]; omega
    · rw [List.length_append, List.length_cons, List.length_cons]
      have : (if p = true then [32] else ([] : List Nat)).length ≤ 1 := by split <;> simp
      omega
theorem sq_len : ∀ l : List Nat, (sq l).length ≤ 2 * l.length
  | [] => by simp [sq]
  | c :: l => by
    have h1 := sq_len l
    have h2 := sqT_len l false
    rw [sq]
    split
    · rw [List.length_cons]; omega
    · rw [List.length_cons, List.length_cons]; omega
theorem tok_len (c : Nat) : (tokL c).length ≤ 2 := by
  unfold tokL
  split
  · simp
  split
  · exact plain_len c
  · simp
theorem toks_len : ∀ l : List Nat, (l.flatMap tokL).length ≤ 2 * l.length
  | [] => by simp
  | c :: l => by
    have h1 := toks_len l
    have h2 := tok_len c
    rw [List.flatMap_cons, List.length_append, List.length_cons]
    omega
theorem nSearch_len (s : List UInt8) : (nSearch s).length ≤ 48 * s.length := by
  have h1 := nFL_len s
  have h2 := toks_len (nFL s)
  have h3 := sq_len ((nFL s).flatMap tokL)
  have h4 := encL_len (nSL s)
  have e : nSL s = sq ((nFL s).flatMap tokL) := rfl
  rw [← e] at h3
  unfold nSearch
  omega
theorem step_nil (O : List UInt8) : joinStep O [] = O := by unfold joinStep; rw [if_neg (fun h => h.1 rfl), List.append_nil]
theorem step_out (y : List UInt8) : joinStep [] y = y := by unfold joinStep; rw [if_neg (fun h => h.2 rfl), List.nil_append]
theorem step_both {O y : List UInt8} (h : O ≠ []) (h2 : y ≠ []) : joinStep O y = O ++ 32 :: y := by unfold joinStep; rw [if_pos ⟨h2, h⟩]

end Go.Proofs.YtmgofhbdaopapaaDoor
