/-
  The program's Encode: a strings.Builder, by the library's contracts.
-/
import Derived.Test.YtpgaebdaakllaaaDoorMade
import Derived.Test.YtpgaebdaakllaaaDoorLayBuild
namespace Go.Proofs.YtpgaebdaakllaaaDoor
open Go.RowKit

/-- A builder of the call's own stays what it is while new blocks are made. -/
theorem builder_below {T e : TypeId} {B b : Nat} {bs : List Value} {w w' : World} (h : Lib.IsBuilderF T e B b bs w) (hb : Below w.heap.size w w') : Lib.IsBuilderF T e B b bs w' := by
  have key : ∀ p, Lib.BuilderAtF T e B b p bs w → Lib.BuilderAtF T e B b p bs w' := by
    rintro p ⟨h1, v, h2, h3, h4⟩
    exact ⟨h1, v, (hb.block b (Array.getElem?_eq_some_iff.1 h2).1).trans h2, h3.kept (grown_of_below none hb) (by cases v.ownBlock with
      | none => exact .inl rfl
      | some g => exact .inr (by simp)), h4⟩
  exact h.elim (fun h => .inl (key _ h)) (fun h => .inr (key _ h))
theorem u8_ofNat (n : Nat) (z : Int) (h : z.toNat = n) : z.toNat.toUInt8 = UInt8.ofNat n := by rw [h]
theorem rune_enc {c : Nat} (h : hasR (c : Int) = true) : Lib.encodeRune (c : Int) = encC c := by
  have hr := has_range h
  have hc : c < 65536 := by omega
  have hs : ¬ (55296 ≤ c ∧ c < 57344) := fun hs => by
    have := kind_surrogate hs.1 hs.2
    exact (has_kind.1 h) this
  unfold Lib.encodeRune encC
  by_cases h1 : c < 128
  · rw [Lib.encodeRuneZ_one (by omega) (by omega), if_pos h1]
    rfl
  · rw [if_neg h1]
    by_cases h2 : c < 2048
    · rw [Lib.encodeRuneZ_two (by omega) (by omega), if_pos h2]
      simp only [List.map_cons, List.map_nil]
      rw [u8_ofNat (192 + c / 64) _ (by omega), u8_ofNat (128 + c % 64) _ (by omega)]
    · rw [Lib.encodeRuneZ_three (by omega), if_neg h2]
      simp only [List.map_cons, List.map_nil]
      rw [u8_ofNat (224 + c / 4096) _ (by omega), u8_ofNat (128 + c / 64 % 64) _ (by omega), u8_ofNat (128 + c % 64) _ (by omega)]

theorem writeRune_any (B b : Nat) (l : List UInt8) (c : Nat) (w : World) (hc : hasR (c : Int) = true) (h : Lib.IsBuilderF 64 5 B b (Lib.byteCells l) w) (hlen : l.length ≤ 1000000) (hBw : B ≤ w.heap.size) :
    Calls Tryd.prog 59 #[.pointer (some ⟨b, 0, none⟩), .int .i32 (c : Int)] w fun e w' => (∃ n : Int, e = .returned (.tuple #[.int .i64 n, .nilIface])) ∧ Lib.IsBuilderF 64 5 B b (Lib.byteCells (l ++ encC c)) w' ∧ Below B w w' := by
  have hr := has_range hc
  have h1 := Any.Builder_WriteRune_k runeLays buildExtra B b (Lib.byteCells l) (c : Int) (by omega) (by omega) w h (by rw [Lib.byteCells_length]; omega) hBw
  have h2 : Calls Tryd.prog 59 #[.pointer (some ⟨b, 0, none⟩), .int .i32 (c : Int)] w _ := h1
  refine h2.mono ?_
  rintro e w' ⟨rfl, h3, h4, _⟩
  refine ⟨⟨_, rfl⟩, ?_, h4⟩
  rw [Lib.byteCells_append, ← rune_enc hc, Lib.byteCells_encodeRune]
  exact .inr h3
theorem buildString_any (B b : Nat) (l : List UInt8) (w : World) (h : Lib.IsBuilderF 64 5 B b (Lib.byteCells l) w) (hBw : B ≤ w.heap.size) :
    Calls Tryd.prog 60 #[.pointer (some ⟨b, 0, none⟩)] w fun e w' => e = .returned (.string (str l)) ∧ Below B w w' := by
  have h1 := Any.Builder_String_any_k stringLays buildExtra B b l w h hBw
  have h2 : Calls Tryd.prog 60 #[.pointer (some ⟨b, 0, none⟩)] w _ := h1
  refine h2.mono ?_
  rintro e w' ⟨rfl, _, h4, _⟩
  exact ⟨rfl, h4⟩

set_option maxRecDepth 20000 in
set_option maxHeartbeats 1600000 in
theorem prEncode_any (A : Option Addr) (n c : Nat) (xs : List Int) (w : World) (hS : Spans w) (h : Arr iv w w.heap.size (.slice A n c) xs) (hn : n ≤ 10000) :
    Calls Tryd.prog 44 #[.slice A n c] w fun e w' => EncEnd (encR xs) e ∧ Below w.heap.size w w' := by
  have HL := Lib.hid h.len
  obtain ⟨R, hR⟩ : ∃ R, R = encR xs := ⟨_, rfl⟩
  rw [← hR]
  have HR := Lib.hid hR
  clear hR
  go_enter Tryd.func44, Tryd.ntmps44
  go_wp2
  go_loopw [9] (fun i wr => ∃ (k : Nat) (b : List UInt8), k ≤ n ∧ i = .int .i64 (k : Int) ∧ Hid (b = encI (xs.take k)) ∧ Hid ((xs.take k).all hasR = true) ∧
    Lib.IsBuilderF 64 5 w.heap.size w.heap.size (Lib.byteCells b) wr ∧ Below w.heap.size w wr) (fun i _ => n - (intOf i).toNat)
  case atStart =>
    exact ⟨0, [], by omega, rfl, Lib.hid rfl, Lib.hid rfl, Lib.IsBuilderF.of (Lib.fresh_isBuilder _ _ w), (Below.refl _ _).alloc (Nat.le_refl _) _⟩
  case round =>
    obtain ⟨k, b, hk, rfl, HB, HA, HI, hbel⟩ := hrel
    have hbs := hbel.size
    by_cases hlt : k < n
    · have i1 : decide ((k : Int) < (n : Int)) = true := by simp; omega
      obtain ⟨b0, o0, rfl, hB0, hc0⟩ := h.some_ (by omega)
      obtain ⟨x, hx⟩ : ∃ a, xs[k]? = some a := ⟨_, List.getElem?_eq_getElem (by have := HL.out; omega)⟩
      have d0 := (hbel.cell (p := ⟨b0, o0 + k, none⟩) hB0).trans (hc0 k x hx)
      simp only [iv] at d0
      have hS2 : Spans wr := hS.below hbel
      have HH := Lib.hid (prHas_any x wr hS2)
      cases hc : hasR x with
      | false =>
        have HE : Hid (R = none) := Lib.hid (by rw [HR.out, encR_bad hx hc])
        rw [hc] at HH
        clear hc0 hx hc
        go_wp2_with fail
        refine HH.out.mono ?_
        rintro e w1 ⟨rfl, k1⟩
        go_wp2
        go_ret2
        rw [HE.out]
        exact ⟨rfl, below_next hbel k1⟩
      | true =>
        have hr := has_range hc
        obtain ⟨y, rfl⟩ : ∃ y : Nat, x = (y : Int) := ⟨x.toNat, by omega⟩
        have hy : y < 65536 := by omega
        have HB2 : Hid (b ++ encC y = encI (xs.take (k + 1))) := Lib.hid (by rw [take_next hx, encI_snoc, HB.out]; rfl)
        have HA2 := Lib.hid (all_take hx HA.out hc)
        have hbl : b.length ≤ 3 * n := by
          have h1 := encI_len (xs.take k)
          rw [← HB.out, List.length_take] at h1
          omega
        have hW := Lib.hid fun (w1 : World) (k1 : Below wr.heap.size wr w1) => writeRune_any w.heap.size w.heap.size b y w1 hc (builder_below HI k1) (by omega) (by have := k1.size; omega)
        rw [hc] at HH
        clear hc0 hx hc
        go_wp2_with fail
        refine HH.out.mono ?_
        rintro e w1 ⟨rfl, k1⟩
        go_wp2_with fail
        refine (hW.out w1 k1).mono ?_
        rintro e w2 ⟨⟨n2, rfl⟩, HI2, k2⟩
        go_wp2
        go_roundw
        case rel => exact ⟨k + 1, b ++ encC y, by omega, by go_num, HB2, HA2, HI2, (below_next hbel k1).trans k2⟩
        case measure => simp [intOf]; omega
    · obtain rfl : k = n := by omega
      have hall : xs.all hasR = true := by have := HA.out; rwa [List.take_of_length_le (by have := HL.out; omega)] at this
      have hbe : b = encI xs := by have := HB.out; rwa [List.take_of_length_le (by have := HL.out; omega)] at this
      have HE : Hid (R = some b) := Lib.hid (by rw [HR.out, encR_good hall, hbe])
      clear hall hbe
      go_wp2_with fail
      refine (buildString_any w.heap.size w.heap.size b wr HI hbs).mono ?_
      rintro e w2 ⟨rfl, k2⟩
      go_wp2
      go_ret2
      rw [HE.out]
      exact ⟨rfl, hbel.trans k2⟩

end Go.Proofs.YtpgaebdaakllaaaDoor
