/-
  The program's Decode, Valid, Cut, Script.
-/
import Derived.Test.YtpgaebdaakllaaaDoorRange
import Derived.Test.YtpgaebdaakllaaaDoorRefCut
namespace Go.Proofs.YtpgaebdaakllaaaDoor
open Go.RowKit

set_option maxRecDepth 20000 in
set_option maxHeartbeats 1600000 in
theorem prDecode_any (s : List UInt8) (w : World) (hS : Spans w) (hlen : s.length ≤ 10000) :
    Calls Tryd.prog 41 #[.string (str s)] w fun e w' => DecEnd w (decR s) e w' ∧ Below w.heap.size w w' := by
  have hsz : (str s).size = s.length := rfl
  have hE := Lib.hid (encoded_any s w hS)
  cases hr : decR s with
  | none =>
    rw [hr] at hE
    go_enter Tryd.func41, Tryd.ntmps41
    go_wp2_with fail
    refine hE.out.mono ?_
    rintro e w1 ⟨rfl, k1⟩
    simp only [Option.isSome_none]
    go_wp2
    go_ret2
    exact ⟨DecEnd.bad, k1⟩
  | some L =>
    rw [hr] at hE
    have HR := Lib.hid hr
    clear hr
    go_enter Tryd.func41, Tryd.ntmps41
    go_wp2_with fail
    refine hE.out.mono ?_
    rintro e w1 ⟨rfl, k1⟩
    simp only [Option.isSome_some]
    have k1s := k1.size
    go_wp2
    go_loopw [4] (fun v wr => ∃ (pos : Nat) (l : List Nat), wr.heap[w1.heap.size]? = some (.stringIter (str s) pos) ∧ Hid (Past s pos l) ∧ wr.ownsRow (w1.heap.size + 1) 3 1 v l.length (l.map nv) ∧ Below w1.heap.size w1 wr) (fun _ wr => s.length - wr.iterPos w1.heap.size)
    case atStart =>
      exact ⟨0, [], World.iter_heap w1 (str s) 0, Lib.hid (Past.start s), World.ownsRow_nil _ _ _ _, (Below.refl _ _).alloc (Nat.le_refl _) _⟩
    case round =>
      obtain ⟨pos, l, hit, HP, hown, hb⟩ := hrel
      have hks : w1.heap.size < wr.heap.size := (Array.getElem?_eq_some_iff.1 hit).1
      by_cases hp : pos < s.length
      · have hown2 := own_iter hown hit (pos + (Utf8.decode (str s) pos).2)
        obtain ⟨c, n, hcn⟩ : ∃ c n, Utf8.decode (str s) pos = (c, n) := ⟨_, _, rfl⟩
        have hnx : ∀ ty, (Instr.next (.pointer (some ⟨w1.heap.size, 0, none⟩)) true ty).run Tryd.prog wr = _ := fun ty => Lib.run_next_any_at wr w1.heap.size (str s) pos ty hit hp
        have hit2 := Lib.iterAt_heap wr w1.heap.size (str s) pos (pos + (Utf8.decode (str s) pos).2) hit
        have hbw2 := Lib.below_iterAt hb (k := w1.heap.size) (Nat.le_refl _) (str s) (pos + (Utf8.decode (str s) pos).2)
        have hcm := decode_le (str s) pos
        simp only [hcn] at hnx hit2 hbw2 hcm hown2
        have hcz : (c : Int) ≤ 2147483647 := by omega
        have hcz0 : (0 : Int) ≤ (c : Int) := by omega
        have hc : hasR (c : Int) = true := by
          cases hc : hasR (c : Int) with
          | true => rfl
          | false => have h := HP.out.rune_bad hp hcn hc; rw [HR.out] at h; cases h
        obtain ⟨h1, h0⟩ := HP.out.rune hp hcn hc
        have HN := Lib.hid h1
        have hle := h1.1
        have hll := HP.out.2.1
        have hsb : w1.heap.size + 1 ≤ (wr.iterAt w1.heap.size (str s) (pos + n)).heap.size := by rw [Lib.iterAt_size]; omega
        clear hcn h1 hc
        go_wp2_with (at_builtin; refine append_int (wr.iterAt w1.heap.size (str s) (pos + n)) rfl (.tmp 15) (.tmp 18) rfl (w1.heap.size + 1) u4 l rfl hown2 c _ rfl rfl (by omega) hsb ?_; intro r1 w3 hown3 hb3)
        go_roundw
        case rel => exact ⟨pos + n, l ++ [c], (hb3.block _ (by omega)).trans hit2, HN, hown3, hbw2.trans (hb3.mono (by omega))⟩
        case measure =>
          rw [iterPos_at ((hb3.block _ (by omega)).trans hit2), iterPos_at hit]
          omega
      · have HE : Hid (L = l) := Lib.hid (by
          have h := HP.out.done hp
          rw [HR.out] at h
          exact Option.some.inj h)
        have hnx : ∀ ty, (Instr.next (.pointer (some ⟨w1.heap.size, 0, none⟩)) true ty).run Tryd.prog wr = _ := fun ty => Lib.run_next_end_at wr w1.heap.size (str s) pos ty hit hp
        go_wp2
        go_ret2
        rw [HE.out]
        exact ⟨DecEnd.good (own_less (by omega) hown), below_next k1 hb⟩

theorem Past.took {s : List UInt8} {k : Nat} {l L : List Nat} (h : Past s k l) (hr : decR s = some L) : (∃ m, L = l ++ m) ∧ s.take k = encL l := by
  have h1 := h.2.2
  rw [hr] at h1
  cases hm : decR (s.drop k) with
  | none => rw [hm] at h1; cases h1
  | some m =>
    rw [hm] at h1
    have h2 : L = l ++ m := Option.some.inj h1
    refine ⟨⟨m, h2⟩, ?_⟩
    have e1 := (enc_dec hr).1
    have e2 := (enc_dec hm).1
    rw [h2, encL_app, e2] at e1
    have e3 : s.take k ++ s.drop k = s := List.take_append_drop k s
    rw [← e1] at e3
    conv at e3 => rhs; rw [← e1]
    exact (List.append_left_inj _).1 (by rw [e1] at e3; rw [e3])
theorem str_head {P : Program} (T : TypeId) (hT : P.underlying T = some .string) (s : List UInt8) (k : Nat) (h : k ≤ s.length) (W : World) :
    (Instr.sliceAt T (.string (str s)) none (some (.int .i64 (k : Int))) none).run P W = .ok (.string (str (s.take k))) W := by
  rw [run_sliceAt_string W _ _ _ _ _ hT, run_slice_string_h W _ _ hT .i64 (k : Int) (by omega) (by show (k : Int) ≤ (s.length : Int); omega)]
  congr 2
  apply ByteArray.ext
  simp [str]

/-- One character more: the script so far. -/
def stp (o c : Nat) : Nat := if o = 0 then (clsR (c : Int)).1 else if (clsR (c : Int)).1 ≠ 0 ∧ (clsR (c : Int)).1 ≠ o then 4 else o
theorem cls3N (c : Int) : (clsN c).1 ≤ 3 := by
  unfold clsN
  repeat' split
  all_goals decide
theorem cls3 (c : Int) : (clsR c).1 ≤ 3 := by
  unfold clsR
  split
  · exact cls3N _
  · exact cls3N _
theorem stp_mixed : ∀ l : List Nat, l.foldl stp 4 = 4
  | [] => rfl
  | c :: l => by
    have h := cls3 (c : Int)
    have e : stp 4 c = 4 := by
      unfold stp
      rw [if_neg (by decide)]
      split <;> rfl
    rw [List.foldl_cons, e]
    exact stp_mixed l
theorem stp_scr : ∀ (l : List Nat) (o : Nat), l.foldl stp o = scrF o l
  | [], o => rfl
  | c :: l, o => by
    rw [List.foldl_cons]
    by_cases h0 : (clsR (c : Int)).1 = 0
    · rw [scr_none h0]
      have e : stp o c = o := by
        unfold stp
        by_cases ho : o = 0
        · rw [if_pos ho, h0, ho]
        · rw [if_neg ho, if_neg (fun h => h.1 h0)]
      rw [e]
      exact stp_scr l o
    · by_cases ho : o = 0
      · rw [scr_next h0 (.inl ho)]
        have e : stp o c = (clsR (c : Int)).1 := by unfold stp; rw [if_pos ho]
        rw [e]
        exact stp_scr l _
      · by_cases h1 : (clsR (c : Int)).1 = o
        · rw [scr_next h0 (.inr h1)]
          have e : stp o c = (clsR (c : Int)).1 := by unfold stp; rw [if_neg ho, if_neg (fun h => h.2 h1), h1]
          rw [e]
          exact stp_scr l _
        · rw [scr_mixed h0 ho h1]
          have e : stp o c = 4 := by unfold stp; rw [if_neg ho, if_pos ⟨h0, h1⟩]
          rw [e]
          exact stp_mixed l
theorem scriptR_some {s : List UInt8} {l : List Nat} (h : decR s = some l) : scriptR s = l.foldl stp 0 := by unfold scriptR; rw [h, stp_scr]
theorem scriptR_none {s : List UInt8} (h : decR s = none) : scriptR s = 0 := by unfold scriptR; rw [h]

end Go.Proofs.YtpgaebdaakllaaaDoor
