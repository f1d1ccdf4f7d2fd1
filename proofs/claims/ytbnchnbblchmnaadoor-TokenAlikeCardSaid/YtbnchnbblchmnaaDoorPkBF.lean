/-
  The program's functions keep what the laws of token ask of them.
  The laws' bodies at arguments as the model holds them.
  What the listed variables say of the tables when a call begins.
  Arguments that came in: slices of integers as lists, strings.
  An argument of two strings.
-/
import Derived.Test.YtbnchnbblchmnaaDoorPkBB
import Derived.Test.YtbnchnbblchmnaaDoorPkBD
import Derived.Test.YtbnchnbblchmnaaDoorPkBE
import Derived.Test.YtbnchnbblchmnaaDoorPkAK
import Derived.Test.YtbnchnbblchmnaaDoorRows
import Derived.Test.YtbnchnbblchmnaaDoorPkAE
import Derived.Lib.LaidU8
import Derived.Lib.LaidU8T
import Derived.PinnedBridge
import Derived.Shelf.Vars
import Derived.Test.YtbnchnbblchmnaaDoorWords
import Derived.ProofKit
import Derived.OpenShut
import Derived.SliceStrings
import Derived.ChangeArms
import Derived.Test.YtbnchnbblchmnaaDoorProg
import Derived.WideKeyArgs2
import Derived.ChangeSame
namespace Go.Proofs.YtbnchnbblchmnaaDoor
open Go.RowKit

theorem own10_of {w : World} (h : Ready10 w) : Own10 w where
  words := fun s W hW hs => prWords_any s W (h.below hW) (by omega)
  texts := fun s W hW hs => prTexts_any s W (h.below hW) (by omega)
  zone := fun A n c l G W hW hA hn hs hG => prZone_any A n c l G W (h.below hW) hA (by omega) (fun s hm => by have := hs s hm; omega) hG
  zoneBad := fun A n c _ g W _ _ hg => prZoneBad_any A n c g W hg
  ordered := fun A n c l W _ hA hn hl => prOrdered_any A n c l W hA hn hl
  join := fun A n c l W _ hA hn hl => prJoin_any A n c l W hA hn hl
theorem own10P_of {w : World} (_h : Ready10 w) : Own10P w where
  phrase := fun A A' n c n' c' l ws W _ hA hB hn hn' hl hws => prPhrase_any A A' n c n' c' l ws W hA hB (by omega) (by omega) (fun x hx => ⟨by have := (hl x hx).1; unfold maxLen; omega, (hl x hx).2⟩) (fun x hx => by have := hws x hx; unfold maxLen; omega)

end Go.Proofs.YtbnchnbblchmnaaDoor

namespace Go.Proofs.YtbnchnbblchmnaaDoor
open Go.RowKit

theorem len_of10 {b : ByteArray} (h : b.size ≤ maxLen) : b.data.toList.length ≤ 9223372036854775807 := by
  unfold maxLen at h
  have : b.data.toList.length = b.size := rfl
  omega
theorem tokenWords_u (b : ByteArray) (w : World) (hS : Ready10 w) (h : b.size ≤ maxLen) :
    Calls Tryd.prog 3 #[.string b] w fun e w' => e = .returned (.bool true) ∧ Below w.heap.size w w' := by
  rw [← str_data b]
  exact tokenWords_v b.data.toList w (own10_of hS) (len_of10 h)
theorem tokenAlike_u (b d : ByteArray) (w : World) (hS : Ready10 w) (h : b.size ≤ maxLen) (h2 : d.size ≤ maxLen) :
    Calls Tryd.prog 7 #[.string b, .string d] w fun e w' => e = .returned (.bool true) ∧ Below w.heap.size w w' := by
  rw [← str_data b, ← str_data d]
  exact tokenAlike_v b.data.toList d.data.toList w (own10_of hS) (len_of10 h) (len_of10 h2)
theorem tokenZone_u (A : Option Addr) (n c : Nat) (xs : List (List UInt8)) (g : Int) (w : World) (hS : Ready10 w) (h : Arr sv w w.heap.size (.slice A n c) xs) (hn : n ≤ 9223372036854775807) (hmax : ∀ x ∈ xs, x.length ≤ maxLen) :
    Calls Tryd.prog 4 #[.slice A n c, .int .i64 g] w fun e w' => e = .returned (.bool true) ∧ Below w.heap.size w w' :=
  tokenZone_v A n c xs g w (own10_of hS) h hn (fun x hx => by have := hmax x hx; unfold maxLen at this; exact this)
theorem tokenJoined_u (A : Option Addr) (n c : Nat) (xs : List (List UInt8)) (w : World) (hS : Ready10 w) (h : Arr sv w w.heap.size (.slice A n c) xs) (hn : n ≤ 9223372036854775807) (hmax : ∀ x ∈ xs, x.length ≤ maxLen) :
    Calls Tryd.prog 5 #[.slice A n c] w fun e w' => e = .returned (.bool true) ∧ Below w.heap.size w w' :=
  tokenJoined_v A n c xs w (own10_of hS) h hn (fun x hx => by have := hmax x hx; unfold maxLen at this; exact this)
theorem tokenGaps_u (A : Option Addr) (n c : Nat) (xs : List (List UInt8)) (g : Int) (a b : ByteArray) (w : World) (hS : Ready10 w) (h : Arr sv w w.heap.size (.slice A n c) xs) (hn : n ≤ 9223372036854775807) (hmax : ∀ x ∈ xs, x.length ≤ maxLen) (hg : 0 ≤ g ∧ g ≤ 255) (ha : a.size ≤ maxLen) (hb : b.size ≤ maxLen) :
    Calls Tryd.prog 6 #[.slice A n c, .int .u8 g, .agg #[.string a, .string b]] w fun e w' => e = .returned (.bool true) ∧ Below w.heap.size w w' := by
  obtain ⟨m, rfl⟩ : ∃ m : Nat, g = (m : Int) := ⟨g.toNat, by omega⟩
  rw [← str_data a, ← str_data b]
  refine tokenGaps_v A n c xs m a.data.toList b.data.toList w (own10_of hS) (own10P_of hS) h hn (fun x hx => by have := hmax x hx; unfold maxLen at this; exact this) (by omega) (fun x hx => ?_)
  simp only [List.mem_cons, List.not_mem_nil, or_false] at hx
  rcases hx with rfl | rfl
  · exact len_of10 ha
  · exact len_of10 hb

end Go.Proofs.YtbnchnbblchmnaaDoor

namespace Go.Proofs.YtbnchnbblchmnaaDoor
open Go.RowKit Go.Shelf Go.Lib

theorem readsT_flat {P : Program} {w : World} {n : String} {dd : DataW Unit} (h : VarReads P w n dd) {g t : Nat} (hg : P.globalNamed n = some g) (ht : (P.globals[g]?).map (·.type) = some t) (hp : plainTy P 8 t = true) :
    ∃ u fz, w.heap[g]? = some (.cells (flat dd).toArray u fz) := by
  obtain ⟨g', t', cs, fuel, p, hg', ht', hvar, hd⟩ := h
  obtain rfl := Option.some.inj (hg.symm.trans hg')
  obtain rfl := Option.some.inj (ht.symm.trans ht')
  have h1 := flat_of_trod 8 fuel t _ dd p hp hd
  unfold World.var? at hvar
  rw [hg] at hvar
  simp only [Option.bind_some] at hvar
  split at hvar
  · rename_i cs' u fz hh
    cases hvar
    refine ⟨u, fz, ?_⟩
    rw [hh, ← h1]
  · cases hvar
theorem u8_types10 : U8Types Tryd.prog ren10 := ⟨decLays.t5, decLays.t119, decLays.t138, decLays.t139⟩
theorem u8_extra10 : U8Extra Tryd.prog ren10 where
  n3 := by kernel_rfl
  n4 := by kernel_rfl
  y3 := by kernel_rfl
  y4 := by kernel_rfl
  c5 := by kernel_rfl
  c119 := by kernel_rfl
  c138 := by kernel_rfl
theorem white_extra10 : WhiteExtra Tryd.prog ren10 where
  n6 := by kernel_rfl
  y6 := by kernel_rfl
  c3 := by kernel_rfl
  c49 := by kernel_rfl
  c193 := by kernel_rfl
  c194 := by kernel_rfl
  c196 := by kernel_rfl
  c198 := by kernel_rfl
theorem accept10_eq : Rows.laid_unicode_utf8_acceptRanges (H := Unit) = acceptData := by kernel_rfl
theorem white10_eq : Rows.laid_unicode_White_Space (H := Unit) = whiteData := by kernel_rfl
theorem ascii10_eq : flat (Rows.laid_strings_asciiSpace (H := Unit)) = (List.range 256).map fun c => Value.int .u8 (if Lib.isSp (UInt8.ofNat c) then 1 else 0) := by kernel_rfl
def laid10 : List (String × DataW Unit) := [("unicode/utf8.acceptRanges", Rows.laid_unicode_utf8_acceptRanges), ("unicode.White_Space", Rows.laid_unicode_White_Space), ("strings.asciiSpace", Rows.laid_strings_asciiSpace), ("bookplate/repertoire.spans", Rows.laid_bookplate_repertoire_spans), ("unicode/utf8.first", Rows.laid_unicode_utf8_first)]
theorem ready10_of {W : World} (hL : laidMet Tryd.prog laid10 W) : Ready10 W := by
  have r1 : VarReads Tryd.prog W "bookplate/repertoire.spans" Rows.laid_bookplate_repertoire_spans := laidMet.reads hL (by simp [laid10])
  have r2 : VarReads Tryd.prog W "unicode/utf8.acceptRanges" acceptData := accept10_eq ▸ laidMet.reads hL (by simp [laid10])
  have r3 : VarReads Tryd.prog W "unicode/utf8.first" firstData := Pinned.utf8First_eq ▸ laidMet.reads hL (n := "unicode/utf8.first") (d := Rows.laid_unicode_utf8_first) (by simp [laid10])
  have r4 : VarReads Tryd.prog W "unicode.White_Space" whiteData := white10_eq ▸ laidMet.reads hL (by simp [laid10])
  have r5 : VarReads Tryd.prog W "strings.asciiSpace" Rows.laid_strings_asciiSpace := laidMet.reads hL (by simp [laid10])
  refine ⟨?_, utf8Tabs_of_readsT u8_types10 u8_extra10 r3 r2, whiteTab_of_reads spaceLays white_extra10 r4, fun c hc => ?_⟩
  · obtain ⟨u, fz, h1⟩ := readsT_flat r1 (g := 2) (t := 103) (by kernel_rfl) (by kernel_rfl) (by kernel_rfl)
    have e : (flat (Rows.laid_bookplate_repertoire_spans (H := Unit))).toArray = spanCells := by kernel_rfl
    rw [e] at h1
    exact ⟨u, fz, h1⟩
  · obtain ⟨u, fz, h1⟩ := readsT_flat r5 (g := 0) (t := 87) (by kernel_rfl) (by kernel_rfl) (by kernel_rfl)
    rw [ascii10_eq] at h1
    rw [Go.cell_of_row W 0 c _ u fz h1]
    simp [hc]

end Go.Proofs.YtbnchnbblchmnaaDoor

namespace Go.Proofs.YtbnchnbblchmnaaDoor
open Go.RowKit

theorem cell_block {W : World} {a : Addr} {v : Value} (h : W.cell? a = some v) : a.block < W.heap.size := World.block_lt_of_cell? W a h

theorem arr_of_ints {W : World} {x : Addr} {l c : Nat} {zs : List Int} (hl : l ≤ c) (hz : zs.length = c) (hcell : ∀ i, i < zs.length → W.cell? (x.add i) = some (.int .i64 (zs.getD i 0))) :
    ∃ xs, Arr iv W W.heap.size (.slice (some x) l c) xs ∧ xs.length = l := by
  have hlen : (zs.take l).length = l := by rw [List.length_take]; omega
  refine ⟨zs.take l, .inr ⟨x, c, by rw [hlen], by rw [hlen]; exact hl, fun h0 => ?_, fun i u hu => ?_⟩, hlen⟩
  · rw [hlen] at h0
    have := cell_block (hcell 0 (by omega))
    rwa [add_block] at this
  · have hi : i < l := by rw [← hlen]; exact (List.getElem?_eq_some_iff.1 hu).1
    rw [hcell i (by omega)]
    rw [List.getElem?_take, if_pos hi, List.getElem?_eq_getElem (show i < zs.length by omega)] at hu
    simp only [Option.some.injEq] at hu
    have hz' : zs.getD i 0 = zs[i]'(by omega) := by simp [List.getD, List.getElem?_eq_getElem (show i < zs.length by omega)]
    rw [hz', hu]
    rfl

theorem open_i {W : World} {x : Addr} {l c : Nat} {zs : List Int} (hl : l ≤ c) (hm : c ≤ maxLen) (hz : zs.length = c) (hcell : ∀ i, i < zs.length → W.cell? (x.add i) = some (.int .i64 (zs.getD i 0))) :
    ∃ xs, Arr iv W W.heap.size (.slice (some x) l c) xs ∧ xs.length = l ∧ l ≤ 9223372036854775807 := by
  obtain ⟨xs, h1, h2⟩ := arr_of_ints hl hz hcell
  unfold maxLen at hm
  exact ⟨xs, h1, h2, by omega⟩

theorem arr_of_texts {W : World} {x : Addr} {l c : Nat} {ss : List ByteArray} (hl : l ≤ c) (hz : l ≤ ss.length) (hcell : ∀ i, i < ss.length → W.cell? (x.add i) = some (.string (ss.getD i ByteArray.empty)))
    (hws : ∀ s ∈ ss, s.size ≤ maxLen) : ∃ xs, Arr sv W W.heap.size (.slice (some x) l c) xs ∧ xs.length = l ∧ ∀ s ∈ xs, s.length ≤ maxLen := by
  have hlen : ((ss.take l).map fun b => b.data.toList).length = l := by rw [List.length_map, List.length_take]; omega
  refine ⟨(ss.take l).map fun b => b.data.toList, .inr ⟨x, c, by rw [hlen], by rw [hlen]; exact hl, fun h0 => ?_, fun i u hu => ?_⟩, hlen, fun s hs => ?_⟩
  · rw [hlen] at h0
    have := cell_block (hcell 0 (by omega))
    rwa [add_block] at this
  · have hi : i < l := by rw [← hlen]; exact (List.getElem?_eq_some_iff.1 hu).1
    rw [hcell i (by omega)]
    rw [List.getElem?_map, List.getElem?_take, if_pos hi, List.getElem?_eq_getElem (show i < ss.length by omega)] at hu
    simp only [Option.map_some, Option.some.injEq] at hu
    have hz' : ss.getD i ByteArray.empty = ss[i]'(by omega) := by simp [List.getD, List.getElem?_eq_getElem (show i < ss.length by omega)]
    rw [hz', ← hu]
    unfold sv
    rw [str_data]
  · obtain ⟨b, hb, rfl⟩ := List.mem_map.1 hs
    have := hws b (List.mem_of_mem_take hb)
    exact this
theorem open_t {W : World} {x : Addr} {l c : Nat} {ss : List ByteArray} (hl : l ≤ c) (hm : c ≤ maxLen) (hz : l ≤ ss.length) (hcell : ∀ i, i < ss.length → W.cell? (x.add i) = some (.string (ss.getD i ByteArray.empty)))
    (hws : ∀ s ∈ ss, s.size ≤ maxLen) : ∃ xs, Arr sv W W.heap.size (.slice (some x) l c) xs ∧ xs.length = l ∧ l ≤ 9223372036854775807 ∧ ∀ s ∈ xs, s.length ≤ maxLen := by
  obtain ⟨bs, h1, h2, h3⟩ := arr_of_texts hl hz hcell hws
  unfold maxLen at hm
  exact ⟨bs, h1, h2, by omega, h3⟩

theorem open_b8 {W : World} {x : Addr} {l c : Nat} {zs : List Int} (hl : l ≤ c) (hm : c ≤ maxLen) (hz : zs.length = c) (hcell : ∀ i, i < zs.length → W.cell? (x.add i) = some (.int .u8 (zs.getD i 0)))
    (hwz : ∀ n ∈ zs, (Lit.int .u8 n).wf = true) : ∃ bs, Arr bv W W.heap.size (.slice (some x) l c) bs ∧ bs.length = l ∧ l ≤ 9223372036854775807 := by
  have hlen : ((zs.take l).map fun z => UInt8.ofNat z.toNat).length = l := by rw [List.length_map, List.length_take]; omega
  unfold maxLen at hm
  refine ⟨(zs.take l).map fun z => UInt8.ofNat z.toNat, .inr ⟨x, c, by rw [hlen], by rw [hlen]; exact hl, fun h0 => ?_, fun i u hu => ?_⟩, hlen, by omega⟩
  · rw [hlen] at h0
    have := cell_block (hcell 0 (by omega))
    rwa [add_block] at this
  · have hi : i < l := by rw [← hlen]; exact (List.getElem?_eq_some_iff.1 hu).1
    rw [hcell i (by omega)]
    rw [List.getElem?_map, List.getElem?_take, if_pos hi, List.getElem?_eq_getElem (show i < zs.length by omega)] at hu
    simp only [Option.map_some, Option.some.injEq] at hu
    have hz' : zs.getD i 0 = zs[i]'(by omega) := by simp [List.getD, List.getElem?_eq_getElem (show i < zs.length by omega)]
    rw [hz']
    have hb := Go.bounds_u8 (hwz _ (List.getElem_mem (show i < zs.length by omega)))
    subst hu
    unfold bv
    rw [UInt8.toNat_ofNat', Nat.mod_eq_of_lt (by omega), Int.toNat_of_nonneg hb.1]

end Go.Proofs.YtbnchnbblchmnaaDoor

namespace Go.Proofs.YtbnchnbblchmnaaDoor
open Go.RowKit Go.ChangeShapes Go.WideShapes

theorem cells_twoS : Tryd.prog.cellsOf 41 = 2 := by kernel_rfl
theorem cells_strS : Tryd.prog.cellsOf 9 = 1 := by kernel_rfl
set_option maxRecDepth 100000 in
theorem open_two {H : Type} {enc : TypeId × Value → H} {W : World} {r : Go.Reach} {b0 base : Nat} {spare : Nat → Bool} {held : Bool} {v : Value} {d : DataW H} {ps : List MemPlace}
    (hv : Value.okWide Tryd.prog W r b0 41 v) (hd : DataW.Trod enc Tryd.prog W base spare held 41 v d ps) :
    ∃ a b : ByteArray, v = .agg #[.string a, .string b] ∧ a.size ≤ maxLen ∧ b.size ≤ maxLen := by
  simp only [Value.okWide, Tryd.underlying41] at hv
  obtain ⟨cs, rfl, hsz, _⟩ := hv
  rw [cells_twoS] at hsz
  obtain ⟨c0, c1, rfl⟩ : ∃ c0 c1, cs = #[c0, c1] := by
    obtain ⟨l⟩ := cs
    match l, hsz with
    | [c0, c1], _ => exact ⟨c0, c1, rfl⟩
  obtain ⟨fuel, hf⟩ := hd
  obtain ⟨xs, m, _, _, _, hlen, hi⟩ := Go.DataW.trod_array Tryd.underlying41 hf
  have h0 := hi 0 (by omega)
  have h1 := hi 1 (by omega)
  rw [cells_strS] at h0 h1
  rw [List.getElem?_eq_getElem (by omega)] at h0 h1
  simp [Value.cells] at h0 h1
  obtain ⟨x0, e0, _, w0⟩ := Go.DataW.trod_string Tryd.underlying9 h0
  obtain ⟨x1, e1, _, w1⟩ := Go.DataW.trod_string Tryd.underlying9 h1
  simp at e0 e1
  subst e0 e1
  exact ⟨x0, x1, rfl, w0, w1⟩

end Go.Proofs.YtbnchnbblchmnaaDoor
