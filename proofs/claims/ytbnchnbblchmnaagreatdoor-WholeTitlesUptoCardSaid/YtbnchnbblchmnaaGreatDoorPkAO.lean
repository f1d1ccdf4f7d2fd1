/-
  The numbers of this program for the library's contracts of strings.Builder.
  The program's Encode: a strings.Builder, by the library's contracts.
  The numbers of this program for the library's contracts of strings.Builder and strings.Join.
  What the library's strings.Builder and strings.Join do, with the frame that an iterator wants.
-/
import Derived.Test.YtbnchnbblchmnaaGreatDoorProg
import Derived.WalkKit
import Derived.Shelf.Strings.BuilderK
import Derived.Shelf.Strings.BuilderRune
import Derived.Test.YtbnchnbblchmnaaGreatDoorPkAN
import Derived.Shelf.Strings.OnBuilder
namespace Go.Proofs.YtbnchnbblchmnaaGreatDoor
open Go.Shelf

def buildRen : Go.Shelf.Ren := ⟨fun | 168 => 43 | 169 => 45 | 240 => 77 | 242 => 78 | 276 => 117 | 278 => 118 | n => n, fun | 0 => 0 | 3 => 3 | 4 => 4 | 5 => 5 | 9 => 9 | 20 => 20 | 21 => 21 | 37 => 75 | 46 => 98 | 51 => 136 | 70 => 74 | 72 => 77 | 75 => 79 | 80 => 84 | 127 => 115 | 164 => 147 | n => n, fun n => n⟩
theorem runeLays : Lays.n168 Tryz.prog buildRen := {
  mixed := by kernel_rfl,
  f168 := Tryz.func43.trans (congrArg some (by kernel_rfl)),
  f240 := Tryz.func77.trans (congrArg some (by kernel_rfl)),
  f242 := Tryz.func78.trans (congrArg some (by kernel_rfl)),
  f276 := Tryz.func117.trans (congrArg some (by kernel_rfl)),
  f278 := Tryz.func118.trans (congrArg some (by kernel_rfl)),
  t0 := Tryz.underlying0,
  a0 := Tryz.isAgg0,
  z0 := Tryz.sizeOf0,
  v0 := Tryz.zeroValue0,
  t3 := Tryz.underlying3,
  a3 := Tryz.isAgg3,
  z3 := Tryz.sizeOf3,
  v3 := Tryz.zeroValue3,
  t4 := Tryz.underlying4,
  a4 := Tryz.isAgg4,
  z4 := Tryz.sizeOf4,
  v4 := Tryz.zeroValue4,
  t5 := Tryz.underlying5,
  a5 := Tryz.isAgg5,
  z5 := Tryz.sizeOf5,
  v5 := Tryz.zeroValue5,
  t9 := Tryz.underlying9,
  a9 := Tryz.isAgg9,
  z9 := Tryz.sizeOf9,
  v9 := Tryz.zeroValue9,
  t20 := Tryz.underlying20,
  a20 := Tryz.isAgg20,
  z20 := Tryz.sizeOf20,
  v20 := Tryz.zeroValue20,
  t21 := Tryz.underlying21,
  a21 := Tryz.isAgg21,
  z21 := Tryz.sizeOf21,
  v21 := Tryz.zeroValue21,
  t37 := Tryz.underlying75,
  a37 := Tryz.isAgg75,
  z37 := Tryz.sizeOf75,
  v37 := Tryz.zeroValue75,
  t46 := Tryz.underlying98,
  a46 := Tryz.isAgg98,
  z46 := Tryz.sizeOf98,
  v46 := Tryz.zeroValue98,
  t51 := Tryz.underlying136,
  a51 := Tryz.isAgg136,
  z51 := Tryz.sizeOf136,
  v51 := Tryz.zeroValue136,
  t70 := Tryz.underlying74,
  a70 := Tryz.isAgg74,
  z70 := Tryz.sizeOf74,
  v70 := Tryz.zeroValue74,
  t72 := Tryz.underlying77,
  a72 := Tryz.isAgg77,
  z72 := Tryz.sizeOf77,
  v72 := Tryz.zeroValue77,
  t75 := Tryz.underlying79,
  a75 := Tryz.isAgg79,
  z75 := Tryz.sizeOf79,
  v75 := Tryz.zeroValue79,
  t164 := Tryz.underlying147,
  a164 := Tryz.isAgg147,
  z164 := Tryz.sizeOf147,
  v164 := Tryz.zeroValue147
}
theorem stringLays : Lays.n169 Tryz.prog buildRen := {
  mixed := by kernel_rfl,
  f169 := Tryz.func45.trans (congrArg some (by kernel_rfl)),
  t0 := Tryz.underlying0,
  a0 := Tryz.isAgg0,
  z0 := Tryz.sizeOf0,
  v0 := Tryz.zeroValue0,
  t3 := Tryz.underlying3,
  a3 := Tryz.isAgg3,
  z3 := Tryz.sizeOf3,
  v3 := Tryz.zeroValue3,
  t9 := Tryz.underlying9,
  a9 := Tryz.isAgg9,
  z9 := Tryz.sizeOf9,
  v9 := Tryz.zeroValue9,
  t37 := Tryz.underlying75,
  a37 := Tryz.isAgg75,
  z37 := Tryz.sizeOf75,
  v37 := Tryz.zeroValue75,
  t70 := Tryz.underlying74,
  a70 := Tryz.isAgg74,
  z70 := Tryz.sizeOf74,
  v70 := Tryz.zeroValue74,
  t72 := Tryz.underlying77,
  a72 := Tryz.isAgg77,
  z72 := Tryz.sizeOf77,
  v72 := Tryz.zeroValue77,
  t127 := Tryz.underlying115,
  a127 := Tryz.isAgg115,
  z127 := Tryz.sizeOf115,
  v127 := Tryz.zeroValue115
}
theorem buildExtra : Builder.Extra Tryz.prog buildRen where
  sizeBuilder := by kernel_rfl
  liesBuilder := by kernel_rfl
  t5 := Tryz.underlying5
  a5 := Tryz.isAgg5
  z5 := Tryz.sizeOf5
  v5 := Tryz.zeroValue5
  infoByte := by kernel_rfl
  cellsByte := by kernel_rfl
  sizeByte := by kernel_rfl
  neB5 := by decide

end Go.Proofs.YtbnchnbblchmnaaGreatDoor

namespace Go.Proofs.YtbnchnbblchmnaaGreatDoor
open Go.RowKit

/-- A builder of the call's own stays what it is while new blocks are made. -/
theorem builder_below {T e : TypeId} {B b : Nat} {bs : List Value} {w w' : World} (h : Lib.IsBuilderF T e B b bs w) (hb : Below w.heap.size w w') : Lib.IsBuilderF T e B b bs w' := by
  have key : ∀ p, Lib.BuilderAtF T e B b p bs w → Lib.BuilderAtF T e B b p bs w' := by
    rintro p ⟨h1, v, h2, h3, h4⟩
    exact ⟨h1, v, (hb.block b (Array.getElem?_eq_some_iff.1 h2).1).trans h2, h3.kept (grown_of_below none hb) (by cases v.ownBlock with
      | none => exact .inl rfl
      | some g => exact .inr (by simp)), h4⟩
  exact h.elim (fun h => .inl (key _ h)) (fun h => .inr (key _ h))
theorem u8_ofNat (n : Nat) (z : Int) (h : z.toNat = n) : z.toNat.toUInt8 = UInt8.ofNat n := by rw [h]
theorem rune_enc {c : Nat} (h : hasR (c : Int) = true) : Lib.encodeRune (c : Int) = encC c := by
  have hr := has_range h
  have hc : c < 65536 := by omega
  have hs : ¬ (55296 ≤ c ∧ c < 57344) := fun hs => by
    have := kind_surrogate hs.1 hs.2
    exact (has_kind.1 h) this
  unfold Lib.encodeRune encC
  by_cases h1 : c < 128
  · rw [Lib.encodeRuneZ_one (by omega) (by omega), if_pos h1]
    rfl
  · rw [if_neg h1]
    by_cases h2 : c < 2048
    · rw [Lib.encodeRuneZ_two (by omega) (by omega), if_pos h2]
      simp only [List.map_cons, List.map_nil]
      rw [u8_ofNat (192 + c / 64) _ (by omega), u8_ofNat (128 + c % 64) _ (by omega)]
    · rw [Lib.encodeRuneZ_three (by omega), if_neg h2]
      simp only [List.map_cons, List.map_nil]
      rw [u8_ofNat (224 + c / 4096) _ (by omega), u8_ofNat (128 + c / 64 % 64) _ (by omega), u8_ofNat (128 + c % 64) _ (by omega)]

theorem writeRune_any (B b : Nat) (l : List UInt8) (c : Nat) (w : World) (hc : hasR (c : Int) = true) (h : Lib.IsBuilderF 77 5 B b (Lib.byteCells l) w) (hlen : l.length ≤ 1000000) (hBw : B ≤ w.heap.size) :
    Calls Tryz.prog 43 #[.pointer (some ⟨b, 0, none⟩), .int .i32 (c : Int)] w fun e w' => (∃ n : Int, e = .returned (.tuple #[.int .i64 n, .nilIface])) ∧ Lib.IsBuilderF 77 5 B b (Lib.byteCells (l ++ encC c)) w' ∧ Below B w w' := by
  have hr := has_range hc
  have h1 := Any.Builder_WriteRune_k runeLays buildExtra B b (Lib.byteCells l) (c : Int) (by omega) (by omega) w h (by rw [Lib.byteCells_length]; omega) hBw
  have h2 : Calls Tryz.prog 43 #[.pointer (some ⟨b, 0, none⟩), .int .i32 (c : Int)] w _ := h1
  refine h2.mono ?_
  rintro e w' ⟨rfl, h3, h4, _⟩
  refine ⟨⟨_, rfl⟩, ?_, h4⟩
  rw [Lib.byteCells_append, ← rune_enc hc, Lib.byteCells_encodeRune]
  exact .inr h3
theorem buildString_any (B b : Nat) (l : List UInt8) (w : World) (h : Lib.IsBuilderF 77 5 B b (Lib.byteCells l) w) (hBw : B ≤ w.heap.size) :
    Calls Tryz.prog 45 #[.pointer (some ⟨b, 0, none⟩)] w fun e w' => e = .returned (.string (str l)) ∧ Below B w w' := by
  have h1 := Any.Builder_String_any_k stringLays buildExtra B b l w h hBw
  have h2 : Calls Tryz.prog 45 #[.pointer (some ⟨b, 0, none⟩)] w _ := h1
  refine h2.mono ?_
  rintro e w' ⟨rfl, _, h4, _⟩
  exact ⟨rfl, h4⟩

set_option maxRecDepth 20000 in
set_option maxHeartbeats 1600000 in
theorem prEncode_any (A : Option Addr) (n c : Nat) (xs : List Int) (w : World) (hS : Spans w) (h : Arr iv w w.heap.size (.slice A n c) xs) (hn : n ≤ 10000) :
    Calls Tryz.prog 116 #[.slice A n c] w fun e w' => EncEnd (encR xs) e ∧ Below w.heap.size w w' := by
  have HL := Lib.hid h.len
  obtain ⟨R, hR⟩ : ∃ R, R = encR xs := ⟨_, rfl⟩
  rw [← hR]
  have HR := Lib.hid hR
  clear hR
  go_enter Tryz.func116, Tryz.ntmps116
  go_wp2
  go_loopw [9] (fun i wr => ∃ (k : Nat) (b : List UInt8), k ≤ n ∧ i = .int .i64 (k : Int) ∧ Hid (b = encI (xs.take k)) ∧ Hid ((xs.take k).all hasR = true) ∧
    Lib.IsBuilderF 77 5 w.heap.size w.heap.size (Lib.byteCells b) wr ∧ Below w.heap.size w wr) (fun i _ => n - (intOf i).toNat)
  case atStart =>
    exact ⟨0, [], by omega, rfl, Lib.hid rfl, Lib.hid rfl, Lib.IsBuilderF.of (Lib.fresh_isBuilder _ _ w), (Below.refl _ _).alloc (Nat.le_refl _) _⟩
  case round =>
    obtain ⟨k, b, hk, rfl, HB, HA, HI, hbel⟩ := hrel
    have hbs := hbel.size
    by_cases hlt : k < n
    · have i1 : decide ((k : Int) < (n : Int)) = true := by simp; omega
      obtain ⟨b0, o0, rfl, hB0, hc0⟩ := h.some_ (by omega)
      obtain ⟨x, hx⟩ : ∃ a, xs[k]? = some a := ⟨_, List.getElem?_eq_getElem (by have := HL.out; omega)⟩
      have d0 := (hbel.cell (p := ⟨b0, o0 + k, none⟩) hB0).trans (hc0 k x hx)
      simp only [iv] at d0
      have hS2 : Spans wr := hS.below hbel
      have HH := Lib.hid (prHas_any x wr hS2)
      cases hc : hasR x with
      | false =>
        have HE : Hid (R = none) := Lib.hid (by rw [HR.out, encR_bad hx hc])
        rw [hc] at HH
        clear hc0 hx hc
        go_wp2_with fail
        refine HH.out.mono ?_
        rintro e w1 ⟨rfl, k1⟩
        go_wp2
        go_ret2
        rw [HE.out]
        exact ⟨rfl, below_next hbel k1⟩
      | true =>
        have hr := has_range hc
        obtain ⟨y, rfl⟩ : ∃ y : Nat, x = (y : Int) := ⟨x.toNat, by omega⟩
        have hy : y < 65536 := by omega
        have HB2 : Hid (b ++ encC y = encI (xs.take (k + 1))) := Lib.hid (by rw [take_next hx, encI_snoc, HB.out]; rfl)
        have HA2 := Lib.hid (all_take hx HA.out hc)
        have hbl : b.length ≤ 3 * n := by
          have h1 := encI_len (xs.take k)
          rw [← HB.out, List.length_take] at h1
          omega
        have hW := Lib.hid fun (w1 : World) (k1 : Below wr.heap.size wr w1) => writeRune_any w.heap.size w.heap.size b y w1 hc (builder_below HI k1) (by omega) (by have := k1.size; omega)
        rw [hc] at HH
        clear hc0 hx hc
        go_wp2_with fail
        refine HH.out.mono ?_
        rintro e w1 ⟨rfl, k1⟩
        go_wp2_with fail
        refine (hW.out w1 k1).mono ?_
        rintro e w2 ⟨⟨n2, rfl⟩, HI2, k2⟩
        go_wp2
        go_roundw
        case rel => exact ⟨k + 1, b ++ encC y, by omega, by go_num, HB2, HA2, HI2, (below_next hbel k1).trans k2⟩
        case measure => simp [intOf]; omega
    · obtain rfl : k = n := by omega
      have hall : xs.all hasR = true := by have := HA.out; rwa [List.take_of_length_le (by have := HL.out; omega)] at this
      have hbe : b = encI xs := by have := HB.out; rwa [List.take_of_length_le (by have := HL.out; omega)] at this
      have HE : Hid (R = some b) := Lib.hid (by rw [HR.out, encR_good hall, hbe])
      clear hall hbe
      go_wp2_with fail
      refine (buildString_any w.heap.size w.heap.size b wr HI hbs).mono ?_
      rintro e w2 ⟨rfl, k2⟩
      go_wp2
      go_ret2
      rw [HE.out]
      exact ⟨rfl, hbel.trans k2⟩

end Go.Proofs.YtbnchnbblchmnaaGreatDoor

namespace Go.Proofs.YtbnchnbblchmnaaGreatDoor
open Go.Shelf

def buildRen6 : Go.Shelf.Ren := ⟨fun | 156 => 51 | 165 => 81 | 166 => 42 | 167 => 48 | 169 => 45 | 170 => 50 | 240 => 77 | 241 => 119 | 276 => 117 | 277 => 147 | n => n, fun | 0 => 0 | 3 => 3 | 4 => 4 | 5 => 5 | 9 => 9 | 20 => 20 | 31 => 25 | 37 => 75 | 70 => 74 | 72 => 77 | 75 => 79 | 76 => 80 | 80 => 84 | 127 => 115 | 164 => 147 | n => n, fun  | n => n⟩
theorem wstrLays : Lays.n166 Tryz.prog buildRen6 := {
  mixed := by kernel_rfl,
  f166 := Tryz.func42.trans (congrArg some (by kernel_rfl)),
  f240 := Tryz.func77.trans (congrArg some (by kernel_rfl)),
  f276 := Tryz.func117.trans (congrArg some (by kernel_rfl)),
  t0 := Tryz.underlying0,
  a0 := Tryz.isAgg0,
  z0 := Tryz.sizeOf0,
  v0 := Tryz.zeroValue0,
  t3 := Tryz.underlying3,
  a3 := Tryz.isAgg3,
  z3 := Tryz.sizeOf3,
  v3 := Tryz.zeroValue3,
  t4 := Tryz.underlying4,
  a4 := Tryz.isAgg4,
  z4 := Tryz.sizeOf4,
  v4 := Tryz.zeroValue4,
  t9 := Tryz.underlying9,
  a9 := Tryz.isAgg9,
  z9 := Tryz.sizeOf9,
  v9 := Tryz.zeroValue9,
  t20 := Tryz.underlying20,
  a20 := Tryz.isAgg20,
  z20 := Tryz.sizeOf20,
  v20 := Tryz.zeroValue20,
  t37 := Tryz.underlying75,
  a37 := Tryz.isAgg75,
  z37 := Tryz.sizeOf75,
  v37 := Tryz.zeroValue75,
  t70 := Tryz.underlying74,
  a70 := Tryz.isAgg74,
  z70 := Tryz.sizeOf74,
  v70 := Tryz.zeroValue74,
  t72 := Tryz.underlying77,
  a72 := Tryz.isAgg77,
  z72 := Tryz.sizeOf77,
  v72 := Tryz.zeroValue77,
  t75 := Tryz.underlying79,
  a75 := Tryz.isAgg79,
  z75 := Tryz.sizeOf79,
  v75 := Tryz.zeroValue79,
  t164 := Tryz.underlying147,
  a164 := Tryz.isAgg147,
  z164 := Tryz.sizeOf147,
  v164 := Tryz.zeroValue147
}
theorem wbyteLays : Lays.n167 Tryz.prog buildRen6 := {
  mixed := by kernel_rfl,
  f167 := Tryz.func48.trans (congrArg some (by kernel_rfl)),
  f240 := Tryz.func77.trans (congrArg some (by kernel_rfl)),
  f276 := Tryz.func117.trans (congrArg some (by kernel_rfl)),
  t0 := Tryz.underlying0,
  a0 := Tryz.isAgg0,
  z0 := Tryz.sizeOf0,
  v0 := Tryz.zeroValue0,
  t4 := Tryz.underlying4,
  a4 := Tryz.isAgg4,
  z4 := Tryz.sizeOf4,
  v4 := Tryz.zeroValue4,
  t5 := Tryz.underlying5,
  a5 := Tryz.isAgg5,
  z5 := Tryz.sizeOf5,
  v5 := Tryz.zeroValue5,
  t9 := Tryz.underlying9,
  a9 := Tryz.isAgg9,
  z9 := Tryz.sizeOf9,
  v9 := Tryz.zeroValue9,
  t20 := Tryz.underlying20,
  a20 := Tryz.isAgg20,
  z20 := Tryz.sizeOf20,
  v20 := Tryz.zeroValue20,
  t37 := Tryz.underlying75,
  a37 := Tryz.isAgg75,
  z37 := Tryz.sizeOf75,
  v37 := Tryz.zeroValue75,
  t70 := Tryz.underlying74,
  a70 := Tryz.isAgg74,
  z70 := Tryz.sizeOf74,
  v70 := Tryz.zeroValue74,
  t72 := Tryz.underlying77,
  a72 := Tryz.isAgg77,
  z72 := Tryz.sizeOf77,
  v72 := Tryz.zeroValue77,
  t75 := Tryz.underlying79,
  a75 := Tryz.isAgg79,
  z75 := Tryz.sizeOf79,
  v75 := Tryz.zeroValue79,
  t164 := Tryz.underlying147,
  a164 := Tryz.isAgg147,
  z164 := Tryz.sizeOf147,
  v164 := Tryz.zeroValue147
}
theorem blenLays : Lays.n170 Tryz.prog buildRen6 := {
  mixed := by kernel_rfl,
  f170 := Tryz.func50.trans (congrArg some (by kernel_rfl)),
  t0 := Tryz.underlying0,
  a0 := Tryz.isAgg0,
  z0 := Tryz.sizeOf0,
  v0 := Tryz.zeroValue0,
  t3 := Tryz.underlying3,
  a3 := Tryz.isAgg3,
  z3 := Tryz.sizeOf3,
  v3 := Tryz.zeroValue3,
  t37 := Tryz.underlying75,
  a37 := Tryz.isAgg75,
  z37 := Tryz.sizeOf75,
  v37 := Tryz.zeroValue75,
  t70 := Tryz.underlying74,
  a70 := Tryz.isAgg74,
  z70 := Tryz.sizeOf74,
  v70 := Tryz.zeroValue74,
  t72 := Tryz.underlying77,
  a72 := Tryz.isAgg77,
  z72 := Tryz.sizeOf77,
  v72 := Tryz.zeroValue77
}
theorem joinLays : Lays.n156 Tryz.prog buildRen6 := {
  mixed := by kernel_rfl,
  f156 := Tryz.func51.trans (congrArg some (by kernel_rfl)),
  f165 := Tryz.func81.trans (congrArg some (by kernel_rfl)),
  f166 := Tryz.func42.trans (congrArg some (by kernel_rfl)),
  f169 := Tryz.func45.trans (congrArg some (by kernel_rfl)),
  f240 := Tryz.func77.trans (congrArg some (by kernel_rfl)),
  f241 := Tryz.func119.trans (congrArg some (by kernel_rfl)),
  f276 := Tryz.func117.trans (congrArg some (by kernel_rfl)),
  f277 := Tryz.func147.trans (congrArg some (by kernel_rfl)),
  t0 := Tryz.underlying0,
  a0 := Tryz.isAgg0,
  z0 := Tryz.sizeOf0,
  v0 := Tryz.zeroValue0,
  t3 := Tryz.underlying3,
  a3 := Tryz.isAgg3,
  z3 := Tryz.sizeOf3,
  v3 := Tryz.zeroValue3,
  t4 := Tryz.underlying4,
  a4 := Tryz.isAgg4,
  z4 := Tryz.sizeOf4,
  v4 := Tryz.zeroValue4,
  t9 := Tryz.underlying9,
  a9 := Tryz.isAgg9,
  z9 := Tryz.sizeOf9,
  v9 := Tryz.zeroValue9,
  t20 := Tryz.underlying20,
  a20 := Tryz.isAgg20,
  z20 := Tryz.sizeOf20,
  v20 := Tryz.zeroValue20,
  t31 := Tryz.underlying25,
  a31 := Tryz.isAgg25,
  z31 := Tryz.sizeOf25,
  v31 := Tryz.zeroValue25,
  t37 := Tryz.underlying75,
  a37 := Tryz.isAgg75,
  z37 := Tryz.sizeOf75,
  v37 := Tryz.zeroValue75,
  t70 := Tryz.underlying74,
  a70 := Tryz.isAgg74,
  z70 := Tryz.sizeOf74,
  v70 := Tryz.zeroValue74,
  t72 := Tryz.underlying77,
  a72 := Tryz.isAgg77,
  z72 := Tryz.sizeOf77,
  v72 := Tryz.zeroValue77,
  t75 := Tryz.underlying79,
  a75 := Tryz.isAgg79,
  z75 := Tryz.sizeOf79,
  v75 := Tryz.zeroValue79,
  t76 := Tryz.underlying80,
  a76 := Tryz.isAgg80,
  z76 := Tryz.sizeOf80,
  v76 := Tryz.zeroValue80,
  t127 := Tryz.underlying115,
  a127 := Tryz.isAgg115,
  z127 := Tryz.sizeOf115,
  v127 := Tryz.zeroValue115,
  t164 := Tryz.underlying147,
  a164 := Tryz.isAgg147,
  z164 := Tryz.sizeOf147,
  v164 := Tryz.zeroValue147
}
theorem buildExtra6 : Builder.Extra Tryz.prog buildRen6 where
  sizeBuilder := by kernel_rfl
  liesBuilder := by kernel_rfl
  t5 := Tryz.underlying5
  a5 := Tryz.isAgg5
  z5 := Tryz.sizeOf5
  v5 := Tryz.zeroValue5
  infoByte := by kernel_rfl
  cellsByte := by kernel_rfl
  sizeByte := by kernel_rfl
  neB5 := by decide

end Go.Proofs.YtbnchnbblchmnaaGreatDoor

namespace Go.Proofs.YtbnchnbblchmnaaGreatDoor
open Go.RowKit

/-- A builder of the call's own that holds these bytes. -/
def Built (B b : Nat) (l : List UInt8) (w : World) : Prop := Lib.IsBuilderF 77 5 B b (Lib.byteCells l) w
/-- All iterators stand as they stood. -/
def Iters (w w' : World) : Prop := ∀ (k : Nat) (s : ByteArray) (p : Nat), w.heap[k]? = some (.stringIter s p) → w'.heap[k]? = some (.stringIter s p)
theorem Iters.refl (w : World) : Iters w w := fun _ _ _ h => h
theorem Iters.trans {a b c : World} (h : Iters a b) (k : Iters b c) : Iters a c := fun i s p hi => k i s p (h i s p hi)
theorem Iters.of_below {w w' : World} (h : Below w.heap.size w w') : Iters w w' := fun k _ _ hk => (h.block k (Array.getElem?_eq_some_iff.1 hk).1).trans hk
theorem Iters.put {w : World} {D : Nat} {t : TypeId} {cs : Array Value} (h : Box w D t cs) (v : Value) : Iters w (w.setCell ⟨D, 0, none⟩ v) := fun k s p hk => by
  have hne : k ≠ D := fun e => by subst e; unfold Box at h; rw [hk] at h; cases h
  exact (Below.heap_setCell w ⟨D, 0, none⟩ v k hne).trans hk
theorem Built.block {B b : Nat} {l : List UInt8} {w : World} (h : Built B b l w) : ∃ c, w.heap[b]? = some (.cells c 77 (0, 0)) := by
  rcases h with ⟨_, v, hb, _⟩ | ⟨_, v, hb, _⟩
  · exact ⟨_, hb⟩
  · exact ⟨_, hb⟩
theorem Built.below {B b : Nat} {l : List UInt8} {w w' : World} (h : Built B b l w) (hb : Below w.heap.size w w') : Built B b l w' := builder_below h hb
theorem Built.fresh (w : World) : Built w.heap.size w.heap.size [] (w.alloc (.cells #[.pointer none, .slice none 0 0] 77)) := Lib.IsBuilderF.of (Lib.fresh_isBuilder _ _ w)
theorem Built.iterAt {B b : Nat} {l : List UInt8} {w : World} (h : Built B b l w) {k : Nat} {s : ByteArray} {pos : Nat} (hk : w.heap[k]? = some (.stringIter s pos)) (pos' : Nat) : Built B b l (w.iterAt k s pos') := Lib.IsBuilderF.iterAt h hk pos'
theorem Built.drewN {B b : Nat} {l : List UInt8} {w : World} (h : Built B b l w) (n : Nat) : Built B b l (w.drewN n) := h
/-- A store into a block that is neither the builder's nor a row of bytes. -/
theorem Built.put {B b D : Nat} {l : List UInt8} {w : World} {t : TypeId} {cs : Array Value} (h : Built B b l w) (hD : Box w D t cs) (ht : t ≠ 5) (hb : D ≠ b) (v : Value) : Built B b l (w.setCell ⟨D, 0, none⟩ v) := by
  have key : ∀ p, Lib.BuilderAtF 77 5 B b p (Lib.byteCells l) w → Lib.BuilderAtF 77 5 B b p (Lib.byteCells l) (w.setCell ⟨D, 0, none⟩ v) := by
    rintro p ⟨hB, x, hbk, hown, hne⟩
    refine ⟨hB, x, (Below.heap_setCell w ⟨D, 0, none⟩ v b (fun e => hb e.symm)).trans hbk, ⟨hown.1, ?_⟩, hne⟩
    rcases hown.2 with hn | ⟨g, cap, cur, fz, hv, hbg, hg, rest⟩
    · exact .inl hn
    · refine .inr ⟨g, cap, cur, fz, hv, hbg, (Below.heap_setCell w ⟨D, 0, none⟩ v g (fun e => ?_)).trans hg, rest⟩
      simp only at e
      subst e
      unfold Box at hD
      rw [hD] at hg
      injection hg with h1
      injection h1 with _ h2 _
      exact ht h2
  exact h.elim (fun x => .inl (key _ x)) (fun x => .inr (key _ x))
theorem Box.kept {w w' : World} {D b : Nat} {t : TypeId} {cs : Array Value} (h : Box w D t cs) (hk : Lib.OthersKept 5 (some b) w w') (ht : t ≠ 5) (hb : D ≠ b) : Box w' D t cs :=
  hk D _ h (fun e => hb (Option.some.inj e)) (fun c fz e => by injection e with _ e2 _; exact ht e2)
theorem Iters.of_kept {B b : Nat} {l : List UInt8} {w w' : World} (h : Built B b l w) (hk : Lib.OthersKept 5 (some b) w w') : Iters w w' := fun k s p hi => by
  obtain ⟨c, hb⟩ := h.block
  exact hk.iter hi (fun e => by subst e; rw [hb] at hi; cases hi)

theorem writeRune_k (B b : Nat) (l : List UInt8) (c : Nat) (w : World) (hc : hasR (c : Int) = true) (h : Built B b l w) (hlen : l.length ≤ 100000000) (hBw : B ≤ w.heap.size) :
    Calls Tryz.prog 43 #[.pointer (some ⟨b, 0, none⟩), .int .i32 (c : Int)] w fun e w' => (∃ n : Int, e = .returned (.tuple #[.int .i64 n, .nilIface])) ∧ Built B b (l ++ encC c) w' ∧ Below B w w' ∧ Lib.OthersKept 5 (some b) w w' := by
  have hr := has_range hc
  have h1 := Any.Builder_WriteRune_k runeLays buildExtra B b (Lib.byteCells l) (c : Int) (by omega) (by omega) w h (by rw [Lib.byteCells_length]; omega) hBw
  have h2 : Calls Tryz.prog 43 #[.pointer (some ⟨b, 0, none⟩), .int .i32 (c : Int)] w _ := h1
  refine h2.mono ?_
  rintro e w' ⟨rfl, h3, h4, h5⟩
  refine ⟨⟨_, rfl⟩, ?_, h4, h5⟩
  unfold Built
  rw [Lib.byteCells_append, ← rune_enc hc, Lib.byteCells_encodeRune]
  exact .inr h3
theorem writeStr_k (B b : Nat) (l s : List UInt8) (w : World) (h : Built B b l w) (hlen : l.length ≤ 100000000) (hs : s.length ≤ 100000000) (hBw : B ≤ w.heap.size) :
    Calls Tryz.prog 42 #[.pointer (some ⟨b, 0, none⟩), .string (str s)] w fun e w' => (∃ n : Int, e = .returned (.tuple #[.int .i64 n, .nilIface])) ∧ Built B b (l ++ s) w' ∧ Below B w w' ∧ Lib.OthersKept 5 (some b) w w' := by
  have h1 := Any.Builder_WriteString_k wstrLays buildExtra6 B b (Lib.byteCells l) (str s) w h (by rw [Lib.byteCells_length, str_size]; omega) hBw
  have h2 : Calls Tryz.prog 42 #[.pointer (some ⟨b, 0, none⟩), .string (str s)] w _ := h1
  refine h2.mono ?_
  rintro e w' ⟨rfl, h3, h4, h5⟩
  refine ⟨⟨_, rfl⟩, ?_, h4, h5⟩
  unfold Built
  rw [Lib.byteCells_append]
  exact .inr h3
theorem writeByte_k (B b : Nat) (l : List UInt8) (c : UInt8) (w : World) (h : Built B b l w) (hlen : l.length ≤ 100000000) (hBw : B ≤ w.heap.size) :
    Calls Tryz.prog 48 #[.pointer (some ⟨b, 0, none⟩), .int .u8 (c.toNat : Int)] w fun e w' => e = .returned .nilIface ∧ Built B b (l ++ [c]) w' ∧ Below B w w' ∧ Lib.OthersKept 5 (some b) w w' := by
  have h1 := Any.Builder_WriteByte_k wbyteLays buildExtra6 B b (Lib.byteCells l) (c.toNat : Int) w h (by rw [Lib.byteCells_length]; omega) hBw
  have h2 : Calls Tryz.prog 48 #[.pointer (some ⟨b, 0, none⟩), .int .u8 (c.toNat : Int)] w _ := h1
  refine h2.mono ?_
  rintro e w' ⟨rfl, h3, h4, h5⟩
  refine ⟨rfl, ?_, h4, h5⟩
  unfold Built
  rw [Lib.byteCells_append]
  exact .inr h3
theorem buildLen_k (B b : Nat) (l : List UInt8) (w : World) (h : Built B b l w) :
    Calls Tryz.prog 50 #[.pointer (some ⟨b, 0, none⟩)] w fun e w' => e = .returned (.int .i64 (l.length : Int)) ∧ w' = w := by
  have h1 := Any.Builder_Len_f blenLays B b (Lib.byteCells l) w h
  rw [Lib.byteCells_length] at h1
  exact h1
theorem buildStr_k (B b : Nat) (l : List UInt8) (w : World) (h : Built B b l w) (hBw : B ≤ w.heap.size) :
    Calls Tryz.prog 45 #[.pointer (some ⟨b, 0, none⟩)] w fun e w' => e = .returned (.string (str l)) ∧ Below B w w' := buildString_any B b l w h hBw

end Go.Proofs.YtbnchnbblchmnaaGreatDoor
