/-
  The program's Decode, Valid, Cut, Script.
  The numbers of this program for the library's contracts of strings.Builder.
  The program's Encode: a strings.Builder, by the library's contracts.
  The numbers of this program for the library's contracts of strings.Builder and strings.Join.
  What the library's strings.Builder and strings.Join do, with the frame that an iterator wants.
-/
import Derived.Test.YtbnchnbblchmnaaDoorPkAF
import Derived.Test.YtbnchnbblchmnaaDoorPkAE
import Derived.Test.YtbnchnbblchmnaaDoorProg
import Derived.WalkKit
import Derived.Shelf.Strings.BuilderK
import Derived.Shelf.Strings.BuilderRune
import Derived.Shelf.Strings.OnBuilder
namespace Go.Proofs.YtbnchnbblchmnaaDoor
open Go.RowKit

set_option maxRecDepth 20000 in
set_option maxHeartbeats 1600000 in
theorem prDecode_any (s : List UInt8) (w : World) (hS : Spans w) (hlen : s.length ≤ 10000) :
    Calls Tryd.prog 99 #[.string (str s)] w fun e w' => DecEnd w (decR s) e w' ∧ Below w.heap.size w w' := by
  have hsz : (str s).size = s.length := rfl
  have hE := Lib.hid (encoded_any s w hS)
  cases hr : decR s with
  | none =>
    rw [hr] at hE
    go_enter Tryd.func99, Tryd.ntmps99
    go_wp2_with fail
    refine hE.out.mono ?_
    rintro e w1 ⟨rfl, k1⟩
    simp only [Option.isSome_none]
    go_wp2
    go_ret2
    exact ⟨DecEnd.bad, k1⟩
  | some L =>
    rw [hr] at hE
    have HR := Lib.hid hr
    clear hr
    go_enter Tryd.func99, Tryd.ntmps99
    go_wp2_with fail
    refine hE.out.mono ?_
    rintro e w1 ⟨rfl, k1⟩
    simp only [Option.isSome_some]
    have k1s := k1.size
    go_wp2
    go_loopw [4] (fun v wr => ∃ (pos : Nat) (l : List Nat), wr.heap[w1.heap.size]? = some (.stringIter (str s) pos) ∧ Hid (Past s pos l) ∧ wr.ownsRow (w1.heap.size + 1) 3 1 v l.length (l.map nv) ∧ Below w1.heap.size w1 wr) (fun _ wr => s.length - wr.iterPos w1.heap.size)
    case atStart =>
      exact ⟨0, [], World.iter_heap w1 (str s) 0, Lib.hid (Past.start s), World.ownsRow_nil _ _ _ _, (Below.refl _ _).alloc (Nat.le_refl _) _⟩
    case round =>
      obtain ⟨pos, l, hit, HP, hown, hb⟩ := hrel
      have hks : w1.heap.size < wr.heap.size := (Array.getElem?_eq_some_iff.1 hit).1
      by_cases hp : pos < s.length
      · have hown2 := own_iter hown hit (pos + (Utf8.decode (str s) pos).2)
        obtain ⟨c, n, hcn⟩ : ∃ c n, Utf8.decode (str s) pos = (c, n) := ⟨_, _, rfl⟩
        have hnx : ∀ ty, (Instr.next (.pointer (some ⟨w1.heap.size, 0, none⟩)) true ty).run Tryd.prog wr = _ := fun ty => Lib.run_next_any_at wr w1.heap.size (str s) pos ty hit hp
        have hit2 := Lib.iterAt_heap wr w1.heap.size (str s) pos (pos + (Utf8.decode (str s) pos).2) hit
        have hbw2 := Lib.below_iterAt hb (k := w1.heap.size) (Nat.le_refl _) (str s) (pos + (Utf8.decode (str s) pos).2)
        have hcm := decode_le (str s) pos
        simp only [hcn] at hnx hit2 hbw2 hcm hown2
        have hcz : (c : Int) ≤ 2147483647 := by omega
        have hcz0 : (0 : Int) ≤ (c : Int) := by omega
        have hc : hasR (c : Int) = true := by
          cases hc : hasR (c : Int) with
          | true => rfl
          | false => have h := HP.out.rune_bad hp hcn hc; rw [HR.out] at h; cases h
        obtain ⟨h1, h0⟩ := HP.out.rune hp hcn hc
        have HN := Lib.hid h1
        have hle := h1.1
        have hll := HP.out.2.1
        have hsb : w1.heap.size + 1 ≤ (wr.iterAt w1.heap.size (str s) (pos + n)).heap.size := by rw [Lib.iterAt_size]; omega
        clear hcn h1 hc
        go_wp2_with (at_builtin; refine append_int (wr.iterAt w1.heap.size (str s) (pos + n)) rfl (.tmp 15) (.tmp 18) rfl (w1.heap.size + 1) u4 l rfl hown2 c _ rfl rfl (by omega) hsb ?_; intro r1 w3 hown3 hb3)
        go_roundw
        case rel => exact ⟨pos + n, l ++ [c], (hb3.block _ (by omega)).trans hit2, HN, hown3, hbw2.trans (hb3.mono (by omega))⟩
        case measure =>
          rw [iterPos_at ((hb3.block _ (by omega)).trans hit2), iterPos_at hit]
          omega
      · have HE : Hid (L = l) := Lib.hid (by
          have h := HP.out.done hp
          rw [HR.out] at h
          exact Option.some.inj h)
        have hnx : ∀ ty, (Instr.next (.pointer (some ⟨w1.heap.size, 0, none⟩)) true ty).run Tryd.prog wr = _ := fun ty => Lib.run_next_end_at wr w1.heap.size (str s) pos ty hit hp
        go_wp2
        go_ret2
        rw [HE.out]
        exact ⟨DecEnd.good (own_less (by omega) hown), below_next k1 hb⟩

theorem Past.took {s : List UInt8} {k : Nat} {l L : List Nat} (h : Past s k l) (hr : decR s = some L) : (∃ m, L = l ++ m) ∧ s.take k = encL l := by
  have h1 := h.2.2
  rw [hr] at h1
  cases hm : decR (s.drop k) with
  | none => rw [hm] at h1; cases h1
  | some m =>
    rw [hm] at h1
    have h2 : L = l ++ m := Option.some.inj h1
    refine ⟨⟨m, h2⟩, ?_⟩
    have e1 := (enc_dec hr).1
    have e2 := (enc_dec hm).1
    rw [h2, encL_app, e2] at e1
    have e3 : s.take k ++ s.drop k = s := List.take_append_drop k s
    rw [← e1] at e3
    conv at e3 => rhs; rw [← e1]
    exact (List.append_left_inj _).1 (by rw [e1] at e3; rw [e3])
theorem str_head {P : Program} (T : TypeId) (hT : P.underlying T = some .string) (s : List UInt8) (k : Nat) (h : k ≤ s.length) (W : World) :
    (Instr.sliceAt T (.string (str s)) none (some (.int .i64 (k : Int))) none).run P W = .ok (.string (str (s.take k))) W := by
  rw [run_sliceAt_string W _ _ _ _ _ hT, run_slice_string_h W _ _ hT .i64 (k : Int) (by omega) (by show (k : Int) ≤ (s.length : Int); omega)]
  congr 2
  apply ByteArray.ext
  simp [str]

/-- One character more: the script so far. -/
def stp (o c : Nat) : Nat := if o = 0 then (clsR (c : Int)).1 else if (clsR (c : Int)).1 ≠ 0 ∧ (clsR (c : Int)).1 ≠ o then 4 else o
theorem cls3N (c : Int) : (clsN c).1 ≤ 3 := by
  unfold clsN
  repeat' split
  all_goals decide
theorem cls3 (c : Int) : (clsR c).1 ≤ 3 := by
  unfold clsR
  split
  · exact cls3N _
  · exact cls3N _
theorem stp_mixed : ∀ l : List Nat, l.foldl stp 4 = 4
  | [] => rfl
  | c :: l => by
    have h := cls3 (c : Int)
    have e : stp 4 c = 4 := by
      unfold stp
      rw [if_neg (by decide)]
      split <;> rfl
    rw [List.foldl_cons, e]
    exact stp_mixed l
theorem stp_scr : ∀ (l : List Nat) (o : Nat), l.foldl stp o = scrF o l
  | [], o => rfl
  | c :: l, o => by
    rw [List.foldl_cons]
    by_cases h0 : (clsR (c : Int)).1 = 0
    · rw [scr_none h0]
      have e : stp o c = o := by
        unfold stp
        by_cases ho : o = 0
        · rw [if_pos ho, h0, ho]
        · rw [if_neg ho, if_neg (fun h => h.1 h0)]
      rw [e]
      exact stp_scr l o
    · by_cases ho : o = 0
      · rw [scr_next h0 (.inl ho)]
        have e : stp o c = (clsR (c : Int)).1 := by unfold stp; rw [if_pos ho]
        rw [e]
        exact stp_scr l _
      · by_cases h1 : (clsR (c : Int)).1 = o
        · rw [scr_next h0 (.inr h1)]
          have e : stp o c = (clsR (c : Int)).1 := by unfold stp; rw [if_neg ho, if_neg (fun h => h.2 h1), h1]
          rw [e]
          exact stp_scr l _
        · rw [scr_mixed h0 ho h1]
          have e : stp o c = 4 := by unfold stp; rw [if_neg ho, if_pos ⟨h0, h1⟩]
          rw [e]
          exact stp_mixed l
theorem scriptR_some {s : List UInt8} {l : List Nat} (h : decR s = some l) : scriptR s = l.foldl stp 0 := by unfold scriptR; rw [h, stp_scr]
theorem scriptR_none {s : List UInt8} (h : decR s = none) : scriptR s = 0 := by unfold scriptR; rw [h]

end Go.Proofs.YtbnchnbblchmnaaDoor

namespace Go.Proofs.YtbnchnbblchmnaaDoor
open Go.Shelf

def buildRen : Go.Shelf.Ren := ⟨fun | 168 => 70 | 169 => 41 | 240 => 60 | 242 => 91 | 276 => 72 | 278 => 103 | n => n, fun | 0 => 0 | 3 => 3 | 4 => 4 | 5 => 5 | 9 => 9 | 20 => 20 | 21 => 21 | 37 => 69 | 46 => 83 | 51 => 96 | 70 => 68 | 72 => 71 | 75 => 74 | 80 => 77 | 127 => 93 | 164 => 105 | n => n, fun n => n⟩
theorem runeLays : Lays.n168 Tryd.prog buildRen := {
  mixed := by kernel_rfl,
  f168 := Tryd.func70.trans (congrArg some (by kernel_rfl)),
  f240 := Tryd.func60.trans (congrArg some (by kernel_rfl)),
  f242 := Tryd.func91.trans (congrArg some (by kernel_rfl)),
  f276 := Tryd.func72.trans (congrArg some (by kernel_rfl)),
  f278 := Tryd.func103.trans (congrArg some (by kernel_rfl)),
  t0 := Tryd.underlying0,
  a0 := Tryd.isAgg0,
  z0 := Tryd.sizeOf0,
  v0 := Tryd.zeroValue0,
  t3 := Tryd.underlying3,
  a3 := Tryd.isAgg3,
  z3 := Tryd.sizeOf3,
  v3 := Tryd.zeroValue3,
  t4 := Tryd.underlying4,
  a4 := Tryd.isAgg4,
  z4 := Tryd.sizeOf4,
  v4 := Tryd.zeroValue4,
  t5 := Tryd.underlying5,
  a5 := Tryd.isAgg5,
  z5 := Tryd.sizeOf5,
  v5 := Tryd.zeroValue5,
  t9 := Tryd.underlying9,
  a9 := Tryd.isAgg9,
  z9 := Tryd.sizeOf9,
  v9 := Tryd.zeroValue9,
  t20 := Tryd.underlying20,
  a20 := Tryd.isAgg20,
  z20 := Tryd.sizeOf20,
  v20 := Tryd.zeroValue20,
  t21 := Tryd.underlying21,
  a21 := Tryd.isAgg21,
  z21 := Tryd.sizeOf21,
  v21 := Tryd.zeroValue21,
  t37 := Tryd.underlying69,
  a37 := Tryd.isAgg69,
  z37 := Tryd.sizeOf69,
  v37 := Tryd.zeroValue69,
  t46 := Tryd.underlying83,
  a46 := Tryd.isAgg83,
  z46 := Tryd.sizeOf83,
  v46 := Tryd.zeroValue83,
  t51 := Tryd.underlying96,
  a51 := Tryd.isAgg96,
  z51 := Tryd.sizeOf96,
  v51 := Tryd.zeroValue96,
  t70 := Tryd.underlying68,
  a70 := Tryd.isAgg68,
  z70 := Tryd.sizeOf68,
  v70 := Tryd.zeroValue68,
  t72 := Tryd.underlying71,
  a72 := Tryd.isAgg71,
  z72 := Tryd.sizeOf71,
  v72 := Tryd.zeroValue71,
  t75 := Tryd.underlying74,
  a75 := Tryd.isAgg74,
  z75 := Tryd.sizeOf74,
  v75 := Tryd.zeroValue74,
  t164 := Tryd.underlying105,
  a164 := Tryd.isAgg105,
  z164 := Tryd.sizeOf105,
  v164 := Tryd.zeroValue105
}
theorem stringLays : Lays.n169 Tryd.prog buildRen := {
  mixed := by kernel_rfl,
  f169 := Tryd.func41.trans (congrArg some (by kernel_rfl)),
  t0 := Tryd.underlying0,
  a0 := Tryd.isAgg0,
  z0 := Tryd.sizeOf0,
  v0 := Tryd.zeroValue0,
  t3 := Tryd.underlying3,
  a3 := Tryd.isAgg3,
  z3 := Tryd.sizeOf3,
  v3 := Tryd.zeroValue3,
  t9 := Tryd.underlying9,
  a9 := Tryd.isAgg9,
  z9 := Tryd.sizeOf9,
  v9 := Tryd.zeroValue9,
  t37 := Tryd.underlying69,
  a37 := Tryd.isAgg69,
  z37 := Tryd.sizeOf69,
  v37 := Tryd.zeroValue69,
  t70 := Tryd.underlying68,
  a70 := Tryd.isAgg68,
  z70 := Tryd.sizeOf68,
  v70 := Tryd.zeroValue68,
  t72 := Tryd.underlying71,
  a72 := Tryd.isAgg71,
  z72 := Tryd.sizeOf71,
  v72 := Tryd.zeroValue71,
  t127 := Tryd.underlying93,
  a127 := Tryd.isAgg93,
  z127 := Tryd.sizeOf93,
  v127 := Tryd.zeroValue93
}
theorem buildExtra : Builder.Extra Tryd.prog buildRen where
  sizeBuilder := by kernel_rfl
  liesBuilder := by kernel_rfl
  t5 := Tryd.underlying5
  a5 := Tryd.isAgg5
  z5 := Tryd.sizeOf5
  v5 := Tryd.zeroValue5
  infoByte := by kernel_rfl
  cellsByte := by kernel_rfl
  sizeByte := by kernel_rfl
  neB5 := by decide

end Go.Proofs.YtbnchnbblchmnaaDoor

namespace Go.Proofs.YtbnchnbblchmnaaDoor
open Go.RowKit

/-- A builder of the call's own stays what it is while new blocks are made. -/
theorem builder_below {T e : TypeId} {B b : Nat} {bs : List Value} {w w' : World} (h : Lib.IsBuilderF T e B b bs w) (hb : Below w.heap.size w w') : Lib.IsBuilderF T e B b bs w' := by
  have key : ∀ p, Lib.BuilderAtF T e B b p bs w → Lib.BuilderAtF T e B b p bs w' := by
    rintro p ⟨h1, v, h2, h3, h4⟩
    exact ⟨h1, v, (hb.block b (Array.getElem?_eq_some_iff.1 h2).1).trans h2, h3.kept (grown_of_below none hb) (by cases v.ownBlock with
      | none => exact .inl rfl
      | some g => exact .inr (by simp)), h4⟩
  exact h.elim (fun h => .inl (key _ h)) (fun h => .inr (key _ h))
theorem u8_ofNat (n : Nat) (z : Int) (h : z.toNat = n) : z.toNat.toUInt8 = UInt8.ofNat n := by rw [h]
theorem rune_enc {c : Nat} (h : hasR (c : Int) = true) : Lib.encodeRune (c : Int) = encC c := by
  have hr := has_range h
  have hc : c < 65536 := by omega
  have hs : ¬ (55296 ≤ c ∧ c < 57344) := fun hs => by
    have := kind_surrogate hs.1 hs.2
    exact (has_kind.1 h) this
  unfold Lib.encodeRune encC
  by_cases h1 : c < 128
  · rw [Lib.encodeRuneZ_one (by omega) (by omega), if_pos h1]
    rfl
  · rw [if_neg h1]
    by_cases h2 : c < 2048
    · rw [Lib.encodeRuneZ_two (by omega) (by omega), if_pos h2]
      simp only [List.map_cons, List.map_nil]
      rw [u8_ofNat (192 + c / 64) _ (by omega), u8_ofNat (128 + c % 64) _ (by omega)]
    · rw [Lib.encodeRuneZ_three (by omega), if_neg h2]
      simp only [List.map_cons, List.map_nil]
      rw [u8_ofNat (224 + c / 4096) _ (by omega), u8_ofNat (128 + c / 64 % 64) _ (by omega), u8_ofNat (128 + c % 64) _ (by omega)]

theorem writeRune_any (B b : Nat) (l : List UInt8) (c : Nat) (w : World) (hc : hasR (c : Int) = true) (h : Lib.IsBuilderF 71 5 B b (Lib.byteCells l) w) (hlen : l.length ≤ 1000000) (hBw : B ≤ w.heap.size) :
    Calls Tryd.prog 70 #[.pointer (some ⟨b, 0, none⟩), .int .i32 (c : Int)] w fun e w' => (∃ n : Int, e = .returned (.tuple #[.int .i64 n, .nilIface])) ∧ Lib.IsBuilderF 71 5 B b (Lib.byteCells (l ++ encC c)) w' ∧ Below B w w' := by
  have hr := has_range hc
  have h1 := Any.Builder_WriteRune_k runeLays buildExtra B b (Lib.byteCells l) (c : Int) (by omega) (by omega) w h (by rw [Lib.byteCells_length]; omega) hBw
  have h2 : Calls Tryd.prog 70 #[.pointer (some ⟨b, 0, none⟩), .int .i32 (c : Int)] w _ := h1
  refine h2.mono ?_
  rintro e w' ⟨rfl, h3, h4, _⟩
  refine ⟨⟨_, rfl⟩, ?_, h4⟩
  rw [Lib.byteCells_append, ← rune_enc hc, Lib.byteCells_encodeRune]
  exact .inr h3
theorem buildString_any (B b : Nat) (l : List UInt8) (w : World) (h : Lib.IsBuilderF 71 5 B b (Lib.byteCells l) w) (hBw : B ≤ w.heap.size) :
    Calls Tryd.prog 41 #[.pointer (some ⟨b, 0, none⟩)] w fun e w' => e = .returned (.string (str l)) ∧ Below B w w' := by
  have h1 := Any.Builder_String_any_k stringLays buildExtra B b l w h hBw
  have h2 : Calls Tryd.prog 41 #[.pointer (some ⟨b, 0, none⟩)] w _ := h1
  refine h2.mono ?_
  rintro e w' ⟨rfl, _, h4, _⟩
  exact ⟨rfl, h4⟩

set_option maxRecDepth 20000 in
set_option maxHeartbeats 1600000 in
theorem prEncode_any (A : Option Addr) (n c : Nat) (xs : List Int) (w : World) (hS : Spans w) (h : Arr iv w w.heap.size (.slice A n c) xs) (hn : n ≤ 10000) :
    Calls Tryd.prog 102 #[.slice A n c] w fun e w' => EncEnd (encR xs) e ∧ Below w.heap.size w w' := by
  have HL := Lib.hid h.len
  obtain ⟨R, hR⟩ : ∃ R, R = encR xs := ⟨_, rfl⟩
  rw [← hR]
  have HR := Lib.hid hR
  clear hR
  go_enter Tryd.func102, Tryd.ntmps102
  go_wp2
  go_loopw [9] (fun i wr => ∃ (k : Nat) (b : List UInt8), k ≤ n ∧ i = .int .i64 (k : Int) ∧ Hid (b = encI (xs.take k)) ∧ Hid ((xs.take k).all hasR = true) ∧
    Lib.IsBuilderF 71 5 w.heap.size w.heap.size (Lib.byteCells b) wr ∧ Below w.heap.size w wr) (fun i _ => n - (intOf i).toNat)
  case atStart =>
    exact ⟨0, [], by omega, rfl, Lib.hid rfl, Lib.hid rfl, Lib.IsBuilderF.of (Lib.fresh_isBuilder _ _ w), (Below.refl _ _).alloc (Nat.le_refl _) _⟩
  case round =>
    obtain ⟨k, b, hk, rfl, HB, HA, HI, hbel⟩ := hrel
    have hbs := hbel.size
    by_cases hlt : k < n
    · have i1 : decide ((k : Int) < (n : Int)) = true := by simp; omega
      obtain ⟨b0, o0, rfl, hB0, hc0⟩ := h.some_ (by omega)
      obtain ⟨x, hx⟩ : ∃ a, xs[k]? = some a := ⟨_, List.getElem?_eq_getElem (by have := HL.out; omega)⟩
      have d0 := (hbel.cell (p := ⟨b0, o0 + k, none⟩) hB0).trans (hc0 k x hx)
      simp only [iv] at d0
      have hS2 : Spans wr := hS.below hbel
      have HH := Lib.hid (prHas_any x wr hS2)
      cases hc : hasR x with
      | false =>
        have HE : Hid (R = none) := Lib.hid (by rw [HR.out, encR_bad hx hc])
        rw [hc] at HH
        clear hc0 hx hc
        go_wp2_with fail
        refine HH.out.mono ?_
        rintro e w1 ⟨rfl, k1⟩
        go_wp2
        go_ret2
        rw [HE.out]
        exact ⟨rfl, below_next hbel k1⟩
      | true =>
        have hr := has_range hc
        obtain ⟨y, rfl⟩ : ∃ y : Nat, x = (y : Int) := ⟨x.toNat, by omega⟩
        have hy : y < 65536 := by omega
        have HB2 : Hid (b ++ encC y = encI (xs.take (k + 1))) := Lib.hid (by rw [take_next hx, encI_snoc, HB.out]; rfl)
        have HA2 := Lib.hid (all_take hx HA.out hc)
        have hbl : b.length ≤ 3 * n := by
          have h1 := encI_len (xs.take k)
          rw [← HB.out, List.length_take] at h1
          omega
        have hW := Lib.hid fun (w1 : World) (k1 : Below wr.heap.size wr w1) => writeRune_any w.heap.size w.heap.size b y w1 hc (builder_below HI k1) (by omega) (by have := k1.size; omega)
        rw [hc] at HH
        clear hc0 hx hc
        go_wp2_with fail
        refine HH.out.mono ?_
        rintro e w1 ⟨rfl, k1⟩
        go_wp2_with fail
        refine (hW.out w1 k1).mono ?_
        rintro e w2 ⟨⟨n2, rfl⟩, HI2, k2⟩
        go_wp2
        go_roundw
        case rel => exact ⟨k + 1, b ++ encC y, by omega, by go_num, HB2, HA2, HI2, (below_next hbel k1).trans k2⟩
        case measure => simp [intOf]; omega
    · obtain rfl : k = n := by omega
      have hall : xs.all hasR = true := by have := HA.out; rwa [List.take_of_length_le (by have := HL.out; omega)] at this
      have hbe : b = encI xs := by have := HB.out; rwa [List.take_of_length_le (by have := HL.out; omega)] at this
      have HE : Hid (R = some b) := Lib.hid (by rw [HR.out, encR_good hall, hbe])
      clear hall hbe
      go_wp2_with fail
      refine (buildString_any w.heap.size w.heap.size b wr HI hbs).mono ?_
      rintro e w2 ⟨rfl, k2⟩
      go_wp2
      go_ret2
      rw [HE.out]
      exact ⟨rfl, hbel.trans k2⟩

end Go.Proofs.YtbnchnbblchmnaaDoor

namespace Go.Proofs.YtbnchnbblchmnaaDoor
open Go.Shelf

def buildRen6 : Go.Shelf.Ren := ⟨fun | 156 => 25 | 165 => 39 | 166 => 40 | 167 => 56 | 169 => 41 | 170 => 58 | 240 => 60 | 241 => 61 | 276 => 72 | 277 => 73 | n => n, fun | 0 => 0 | 3 => 3 | 4 => 4 | 5 => 5 | 9 => 9 | 20 => 20 | 31 => 27 | 37 => 69 | 70 => 68 | 72 => 71 | 75 => 74 | 76 => 75 | 80 => 77 | 127 => 93 | 164 => 105 | n => n, fun  | n => n⟩
theorem wstrLays : Lays.n166 Tryd.prog buildRen6 := {
  mixed := by kernel_rfl,
  f166 := Tryd.func40.trans (congrArg some (by kernel_rfl)),
  f240 := Tryd.func60.trans (congrArg some (by kernel_rfl)),
  f276 := Tryd.func72.trans (congrArg some (by kernel_rfl)),
  t0 := Tryd.underlying0,
  a0 := Tryd.isAgg0,
  z0 := Tryd.sizeOf0,
  v0 := Tryd.zeroValue0,
  t3 := Tryd.underlying3,
  a3 := Tryd.isAgg3,
  z3 := Tryd.sizeOf3,
  v3 := Tryd.zeroValue3,
  t4 := Tryd.underlying4,
  a4 := Tryd.isAgg4,
  z4 := Tryd.sizeOf4,
  v4 := Tryd.zeroValue4,
  t9 := Tryd.underlying9,
  a9 := Tryd.isAgg9,
  z9 := Tryd.sizeOf9,
  v9 := Tryd.zeroValue9,
  t20 := Tryd.underlying20,
  a20 := Tryd.isAgg20,
  z20 := Tryd.sizeOf20,
  v20 := Tryd.zeroValue20,
  t37 := Tryd.underlying69,
  a37 := Tryd.isAgg69,
  z37 := Tryd.sizeOf69,
  v37 := Tryd.zeroValue69,
  t70 := Tryd.underlying68,
  a70 := Tryd.isAgg68,
  z70 := Tryd.sizeOf68,
  v70 := Tryd.zeroValue68,
  t72 := Tryd.underlying71,
  a72 := Tryd.isAgg71,
  z72 := Tryd.sizeOf71,
  v72 := Tryd.zeroValue71,
  t75 := Tryd.underlying74,
  a75 := Tryd.isAgg74,
  z75 := Tryd.sizeOf74,
  v75 := Tryd.zeroValue74,
  t164 := Tryd.underlying105,
  a164 := Tryd.isAgg105,
  z164 := Tryd.sizeOf105,
  v164 := Tryd.zeroValue105
}
theorem wbyteLays : Lays.n167 Tryd.prog buildRen6 := {
  mixed := by kernel_rfl,
  f167 := Tryd.func56.trans (congrArg some (by kernel_rfl)),
  f240 := Tryd.func60.trans (congrArg some (by kernel_rfl)),
  f276 := Tryd.func72.trans (congrArg some (by kernel_rfl)),
  t0 := Tryd.underlying0,
  a0 := Tryd.isAgg0,
  z0 := Tryd.sizeOf0,
  v0 := Tryd.zeroValue0,
  t4 := Tryd.underlying4,
  a4 := Tryd.isAgg4,
  z4 := Tryd.sizeOf4,
  v4 := Tryd.zeroValue4,
  t5 := Tryd.underlying5,
  a5 := Tryd.isAgg5,
  z5 := Tryd.sizeOf5,
  v5 := Tryd.zeroValue5,
  t9 := Tryd.underlying9,
  a9 := Tryd.isAgg9,
  z9 := Tryd.sizeOf9,
  v9 := Tryd.zeroValue9,
  t20 := Tryd.underlying20,
  a20 := Tryd.isAgg20,
  z20 := Tryd.sizeOf20,
  v20 := Tryd.zeroValue20,
  t37 := Tryd.underlying69,
  a37 := Tryd.isAgg69,
  z37 := Tryd.sizeOf69,
  v37 := Tryd.zeroValue69,
  t70 := Tryd.underlying68,
  a70 := Tryd.isAgg68,
  z70 := Tryd.sizeOf68,
  v70 := Tryd.zeroValue68,
  t72 := Tryd.underlying71,
  a72 := Tryd.isAgg71,
  z72 := Tryd.sizeOf71,
  v72 := Tryd.zeroValue71,
  t75 := Tryd.underlying74,
  a75 := Tryd.isAgg74,
  z75 := Tryd.sizeOf74,
  v75 := Tryd.zeroValue74,
  t164 := Tryd.underlying105,
  a164 := Tryd.isAgg105,
  z164 := Tryd.sizeOf105,
  v164 := Tryd.zeroValue105
}
theorem blenLays : Lays.n170 Tryd.prog buildRen6 := {
  mixed := by kernel_rfl,
  f170 := Tryd.func58.trans (congrArg some (by kernel_rfl)),
  t0 := Tryd.underlying0,
  a0 := Tryd.isAgg0,
  z0 := Tryd.sizeOf0,
  v0 := Tryd.zeroValue0,
  t3 := Tryd.underlying3,
  a3 := Tryd.isAgg3,
  z3 := Tryd.sizeOf3,
  v3 := Tryd.zeroValue3,
  t37 := Tryd.underlying69,
  a37 := Tryd.isAgg69,
  z37 := Tryd.sizeOf69,
  v37 := Tryd.zeroValue69,
  t70 := Tryd.underlying68,
  a70 := Tryd.isAgg68,
  z70 := Tryd.sizeOf68,
  v70 := Tryd.zeroValue68,
  t72 := Tryd.underlying71,
  a72 := Tryd.isAgg71,
  z72 := Tryd.sizeOf71,
  v72 := Tryd.zeroValue71
}
theorem joinLays : Lays.n156 Tryd.prog buildRen6 := {
  mixed := by kernel_rfl,
  f156 := Tryd.func25.trans (congrArg some (by kernel_rfl)),
  f165 := Tryd.func39.trans (congrArg some (by kernel_rfl)),
  f166 := Tryd.func40.trans (congrArg some (by kernel_rfl)),
  f169 := Tryd.func41.trans (congrArg some (by kernel_rfl)),
  f240 := Tryd.func60.trans (congrArg some (by kernel_rfl)),
  f241 := Tryd.func61.trans (congrArg some (by kernel_rfl)),
  f276 := Tryd.func72.trans (congrArg some (by kernel_rfl)),
  f277 := Tryd.func73.trans (congrArg some (by kernel_rfl)),
  t0 := Tryd.underlying0,
  a0 := Tryd.isAgg0,
  z0 := Tryd.sizeOf0,
  v0 := Tryd.zeroValue0,
  t3 := Tryd.underlying3,
  a3 := Tryd.isAgg3,
  z3 := Tryd.sizeOf3,
  v3 := Tryd.zeroValue3,
  t4 := Tryd.underlying4,
  a4 := Tryd.isAgg4,
  z4 := Tryd.sizeOf4,
  v4 := Tryd.zeroValue4,
  t9 := Tryd.underlying9,
  a9 := Tryd.isAgg9,
  z9 := Tryd.sizeOf9,
  v9 := Tryd.zeroValue9,
  t20 := Tryd.underlying20,
  a20 := Tryd.isAgg20,
  z20 := Tryd.sizeOf20,
  v20 := Tryd.zeroValue20,
  t31 := Tryd.underlying27,
  a31 := Tryd.isAgg27,
  z31 := Tryd.sizeOf27,
  v31 := Tryd.zeroValue27,
  t37 := Tryd.underlying69,
  a37 := Tryd.isAgg69,
  z37 := Tryd.sizeOf69,
  v37 := Tryd.zeroValue69,
  t70 := Tryd.underlying68,
  a70 := Tryd.isAgg68,
  z70 := Tryd.sizeOf68,
  v70 := Tryd.zeroValue68,
  t72 := Tryd.underlying71,
  a72 := Tryd.isAgg71,
  z72 := Tryd.sizeOf71,
  v72 := Tryd.zeroValue71,
  t75 := Tryd.underlying74,
  a75 := Tryd.isAgg74,
  z75 := Tryd.sizeOf74,
  v75 := Tryd.zeroValue74,
  t76 := Tryd.underlying75,
  a76 := Tryd.isAgg75,
  z76 := Tryd.sizeOf75,
  v76 := Tryd.zeroValue75,
  t127 := Tryd.underlying93,
  a127 := Tryd.isAgg93,
  z127 := Tryd.sizeOf93,
  v127 := Tryd.zeroValue93,
  t164 := Tryd.underlying105,
  a164 := Tryd.isAgg105,
  z164 := Tryd.sizeOf105,
  v164 := Tryd.zeroValue105
}
theorem buildExtra6 : Builder.Extra Tryd.prog buildRen6 where
  sizeBuilder := by kernel_rfl
  liesBuilder := by kernel_rfl
  t5 := Tryd.underlying5
  a5 := Tryd.isAgg5
  z5 := Tryd.sizeOf5
  v5 := Tryd.zeroValue5
  infoByte := by kernel_rfl
  cellsByte := by kernel_rfl
  sizeByte := by kernel_rfl
  neB5 := by decide

end Go.Proofs.YtbnchnbblchmnaaDoor

namespace Go.Proofs.YtbnchnbblchmnaaDoor
open Go.RowKit

/-- A builder of the call's own that holds these bytes. -/
def Built (B b : Nat) (l : List UInt8) (w : World) : Prop := Lib.IsBuilderF 71 5 B b (Lib.byteCells l) w
/-- All iterators stand as they stood. -/
def Iters (w w' : World) : Prop := ∀ (k : Nat) (s : ByteArray) (p : Nat), w.heap[k]? = some (.stringIter s p) → w'.heap[k]? = some (.stringIter s p)
theorem Iters.refl (w : World) : Iters w w := fun _ _ _ h => h
theorem Iters.trans {a b c : World} (h : Iters a b) (k : Iters b c) : Iters a c := fun i s p hi => k i s p (h i s p hi)
theorem Iters.of_below {w w' : World} (h : Below w.heap.size w w') : Iters w w' := fun k _ _ hk => (h.block k (Array.getElem?_eq_some_iff.1 hk).1).trans hk
theorem Iters.put {w : World} {D : Nat} {t : TypeId} {cs : Array Value} (h : Box w D t cs) (v : Value) : Iters w (w.setCell ⟨D, 0, none⟩ v) := fun k s p hk => by
  have hne : k ≠ D := fun e => by subst e; unfold Box at h; rw [hk] at h; cases h
  exact (Below.heap_setCell w ⟨D, 0, none⟩ v k hne).trans hk
theorem Built.block {B b : Nat} {l : List UInt8} {w : World} (h : Built B b l w) : ∃ c, w.heap[b]? = some (.cells c 71 (0, 0)) := by
  rcases h with ⟨_, v, hb, _⟩ | ⟨_, v, hb, _⟩
  · exact ⟨_, hb⟩
  · exact ⟨_, hb⟩
theorem Built.below {B b : Nat} {l : List UInt8} {w w' : World} (h : Built B b l w) (hb : Below w.heap.size w w') : Built B b l w' := builder_below h hb
theorem Built.fresh (w : World) : Built w.heap.size w.heap.size [] (w.alloc (.cells #[.pointer none, .slice none 0 0] 71)) := Lib.IsBuilderF.of (Lib.fresh_isBuilder _ _ w)
theorem Built.iterAt {B b : Nat} {l : List UInt8} {w : World} (h : Built B b l w) {k : Nat} {s : ByteArray} {pos : Nat} (hk : w.heap[k]? = some (.stringIter s pos)) (pos' : Nat) : Built B b l (w.iterAt k s pos') := Lib.IsBuilderF.iterAt h hk pos'
theorem Built.drewN {B b : Nat} {l : List UInt8} {w : World} (h : Built B b l w) (n : Nat) : Built B b l (w.drewN n) := h
/-- A store into a block that is neither the builder's nor a row of bytes. -/
theorem Built.put {B b D : Nat} {l : List UInt8} {w : World} {t : TypeId} {cs : Array Value} (h : Built B b l w) (hD : Box w D t cs) (ht : t ≠ 5) (hb : D ≠ b) (v : Value) : Built B b l (w.setCell ⟨D, 0, none⟩ v) := by
  have key : ∀ p, Lib.BuilderAtF 71 5 B b p (Lib.byteCells l) w → Lib.BuilderAtF 71 5 B b p (Lib.byteCells l) (w.setCell ⟨D, 0, none⟩ v) := by
    rintro p ⟨hB, x, hbk, hown, hne⟩
    refine ⟨hB, x, (Below.heap_setCell w ⟨D, 0, none⟩ v b (fun e => hb e.symm)).trans hbk, ⟨hown.1, ?_⟩, hne⟩
    rcases hown.2 with hn | ⟨g, cap, cur, fz, hv, hbg, hg, rest⟩
    · exact .inl hn
    · refine .inr ⟨g, cap, cur, fz, hv, hbg, (Below.heap_setCell w ⟨D, 0, none⟩ v g (fun e => ?_)).trans hg, rest⟩
      simp only at e
      subst e
      unfold Box at hD
      rw [hD] at hg
      injection hg with h1
      injection h1 with _ h2 _
      exact ht h2
  exact h.elim (fun x => .inl (key _ x)) (fun x => .inr (key _ x))
theorem Box.kept {w w' : World} {D b : Nat} {t : TypeId} {cs : Array Value} (h : Box w D t cs) (hk : Lib.OthersKept 5 (some b) w w') (ht : t ≠ 5) (hb : D ≠ b) : Box w' D t cs :=
  hk D _ h (fun e => hb (Option.some.inj e)) (fun c fz e => by injection e with _ e2 _; exact ht e2)
theorem Iters.of_kept {B b : Nat} {l : List UInt8} {w w' : World} (h : Built B b l w) (hk : Lib.OthersKept 5 (some b) w w') : Iters w w' := fun k s p hi => by
  obtain ⟨c, hb⟩ := h.block
  exact hk.iter hi (fun e => by subst e; rw [hb] at hi; cases hi)

theorem writeRune_k (B b : Nat) (l : List UInt8) (c : Nat) (w : World) (hc : hasR (c : Int) = true) (h : Built B b l w) (hlen : l.length ≤ 100000000) (hBw : B ≤ w.heap.size) :
    Calls Tryd.prog 70 #[.pointer (some ⟨b, 0, none⟩), .int .i32 (c : Int)] w fun e w' => (∃ n : Int, e = .returned (.tuple #[.int .i64 n, .nilIface])) ∧ Built B b (l ++ encC c) w' ∧ Below B w w' ∧ Lib.OthersKept 5 (some b) w w' := by
  have hr := has_range hc
  have h1 := Any.Builder_WriteRune_k runeLays buildExtra B b (Lib.byteCells l) (c : Int) (by omega) (by omega) w h (by rw [Lib.byteCells_length]; omega) hBw
  have h2 : Calls Tryd.prog 70 #[.pointer (some ⟨b, 0, none⟩), .int .i32 (c : Int)] w _ := h1
  refine h2.mono ?_
  rintro e w' ⟨rfl, h3, h4, h5⟩
  refine ⟨⟨_, rfl⟩, ?_, h4, h5⟩
  unfold Built
  rw [Lib.byteCells_append, ← rune_enc hc, Lib.byteCells_encodeRune]
  exact .inr h3
theorem writeStr_k (B b : Nat) (l s : List UInt8) (w : World) (h : Built B b l w) (hlen : l.length ≤ 100000000) (hs : s.length ≤ 100000000) (hBw : B ≤ w.heap.size) :
    Calls Tryd.prog 40 #[.pointer (some ⟨b, 0, none⟩), .string (str s)] w fun e w' => (∃ n : Int, e = .returned (.tuple #[.int .i64 n, .nilIface])) ∧ Built B b (l ++ s) w' ∧ Below B w w' ∧ Lib.OthersKept 5 (some b) w w' := by
  have h1 := Any.Builder_WriteString_k wstrLays buildExtra6 B b (Lib.byteCells l) (str s) w h (by rw [Lib.byteCells_length, str_size]; omega) hBw
  have h2 : Calls Tryd.prog 40 #[.pointer (some ⟨b, 0, none⟩), .string (str s)] w _ := h1
  refine h2.mono ?_
  rintro e w' ⟨rfl, h3, h4, h5⟩
  refine ⟨⟨_, rfl⟩, ?_, h4, h5⟩
  unfold Built
  rw [Lib.byteCells_append]
  exact .inr h3
theorem writeByte_k (B b : Nat) (l : List UInt8) (c : UInt8) (w : World) (h : Built B b l w) (hlen : l.length ≤ 100000000) (hBw : B ≤ w.heap.size) :
    Calls Tryd.prog 56 #[.pointer (some ⟨b, 0, none⟩), .int .u8 (c.toNat : Int)] w fun e w' => e = .returned .nilIface ∧ Built B b (l ++ [c]) w' ∧ Below B w w' ∧ Lib.OthersKept 5 (some b) w w' := by
  have h1 := Any.Builder_WriteByte_k wbyteLays buildExtra6 B b (Lib.byteCells l) (c.toNat : Int) w h (by rw [Lib.byteCells_length]; omega) hBw
  have h2 : Calls Tryd.prog 56 #[.pointer (some ⟨b, 0, none⟩), .int .u8 (c.toNat : Int)] w _ := h1
  refine h2.mono ?_
  rintro e w' ⟨rfl, h3, h4, h5⟩
  refine ⟨rfl, ?_, h4, h5⟩
  unfold Built
  rw [Lib.byteCells_append]
  exact .inr h3
theorem buildLen_k (B b : Nat) (l : List UInt8) (w : World) (h : Built B b l w) :
    Calls Tryd.prog 58 #[.pointer (some ⟨b, 0, none⟩)] w fun e w' => e = .returned (.int .i64 (l.length : Int)) ∧ w' = w := by
  have h1 := Any.Builder_Len_f blenLays B b (Lib.byteCells l) w h
  rw [Lib.byteCells_length] at h1
  exact h1
theorem buildStr_k (B b : Nat) (l : List UInt8) (w : World) (h : Built B b l w) (hBw : B ≤ w.heap.size) :
    Calls Tryd.prog 41 #[.pointer (some ⟨b, 0, none⟩)] w fun e w' => e = .returned (.string (str l)) ∧ Below B w w' := buildString_any B b l w h hBw

end Go.Proofs.YtbnchnbblchmnaaDoor
