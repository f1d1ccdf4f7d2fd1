/-
  The program's Has, encoded, Count: ranges over a string.
-/
import Derived.Test.YtpgaebdaakllaaaDoorSearch
namespace Go.Proofs.YtpgaebdaakllaaaDoor
open Go.RowKit

set_option maxHeartbeats 1600000 in
theorem prHas_any (c : Int) (w : World) (hS : Spans w) :
    Calls Tryd.prog 58 #[.int .i64 c] w fun e w' => e = .returned (.bool (hasR c)) ∧ Below w.heap.size w w' := by
  have hcl := prClass_any c w hS
  obtain ⟨a, ha⟩ : ∃ a, a = (clsR c).1 := ⟨_, rfl⟩
  obtain ⟨b, hb⟩ : ∃ b, b = (clsR c).2 := ⟨_, rfl⟩
  rw [← ha, ← hb] at hcl
  have HC := Lib.hid hcl
  have HB : Hid (hasR c = (b != 0)) := Lib.hid (by rw [hb]; rfl)
  clear hcl ha hb
  go_enter Tryd.func58, Tryd.ntmps58
  go_wp2_with fail
  refine HC.out.mono ?_
  rintro e w1 ⟨rfl, k1⟩
  unfold two
  go_wp2
  go_ret
  rw [HB.out]
  refine ⟨ret_bool ?_, k1⟩
  cases b <;> simp
  omega

theorem iterPos_at {w : World} {k p : Nat} {s : ByteArray} (h : w.heap[k]? = some (.stringIter s p)) : w.iterPos k = p := by simp [World.iterPos, h]
theorem isSome_of {s : List UInt8} {l : List Nat} (h : decR s = some l) : (decR s).isSome = true := by rw [h]; rfl
theorem isSome_no {s : List UInt8} (h : decR s = none) : (decR s).isSome = false := by rw [h]; rfl

set_option maxRecDepth 20000 in
set_option maxHeartbeats 1600000 in
theorem encoded_any (s : List UInt8) (w : World) (hS : Spans w) :
    Calls Tryd.prog 53 #[.string (str s)] w fun e w' => e = .returned (.bool (decR s).isSome) ∧ Below w.heap.size w w' := by
  have hsz : (str s).size = s.length := rfl
  obtain ⟨R, hR⟩ : ∃ R, (decR s).isSome = R := ⟨_, rfl⟩
  rw [hR]
  have HR := Lib.hid hR
  clear hR
  go_enter Tryd.func53, Tryd.ntmps53
  go_wp2
  go_loopw [] (fun wr => ∃ (pos : Nat) (l : List Nat), wr.heap[w.heap.size]? = some (.stringIter (str s) pos) ∧ Hid (Past s pos l) ∧ Below w.heap.size w wr) (fun wr => s.length - wr.iterPos w.heap.size)
  case atStart =>
    exact ⟨0, [], World.iter_heap w (str s) 0, Lib.hid (Past.start s), (Below.refl _ _).alloc (Nat.le_refl _) _⟩
  case round =>
    obtain ⟨pos, l, hit, HP, hb⟩ := hrel
    have hks : w.heap.size < wr.heap.size := (Array.getElem?_eq_some_iff.1 hit).1
    by_cases hp : pos < s.length
    · obtain ⟨c, n, hcn⟩ : ∃ c n, Utf8.decode (str s) pos = (c, n) := ⟨_, _, rfl⟩
      have hnx : ∀ ty, (Instr.next (.pointer (some ⟨w.heap.size, 0, none⟩)) true ty).run Tryd.prog wr = _ := fun ty => Lib.run_next_any_at wr w.heap.size (str s) pos ty hit hp
      have hit2 := Lib.iterAt_heap wr w.heap.size (str s) pos (pos + (Utf8.decode (str s) pos).2) hit
      have hbw2 := Lib.below_iterAt hb (k := w.heap.size) (Nat.le_refl _) (str s) (pos + (Utf8.decode (str s) pos).2)
      have hcm := decode_le (str s) pos
      simp only [hcn] at hnx hit2 hbw2 hcm
      have hcz : (c : Int) ≤ 2147483647 := by omega
      have hcz0 : (0 : Int) ≤ (c : Int) := by omega
      have hS2 : Spans _ := hS.below hbw2
      have HH := Lib.hid (prHas_any (c : Int) _ hS2)
      cases hc : hasR (c : Int) with
      | true =>
        obtain ⟨h1, h0⟩ := HP.out.rune hp hcn hc
        have HN := Lib.hid h1
        have hle := h1.1
        rw [hc] at HH
        clear hcn h1 hc
        go_wp2_with fail
        refine HH.out.mono ?_
        rintro e w3 ⟨rfl, k3⟩
        go_wp2
        go_roundw
        case rel => exact ⟨pos + n, l ++ [c], (k3.block _ (Array.getElem?_eq_some_iff.1 hit2).1).trans hit2, HN, below_next hbw2 k3⟩
        case measure =>
          rw [iterPos_at ((k3.block _ (Array.getElem?_eq_some_iff.1 hit2).1).trans hit2), iterPos_at hit]
          omega
      | false =>
        have hn := HP.out.rune_bad hp hcn hc
        have HE : Hid (R = false) := Lib.hid (by rw [← HR.out]; exact isSome_no hn)
        rw [hc] at HH
        clear hcn hc hn
        go_wp2_with fail
        refine HH.out.mono ?_
        rintro e w3 ⟨rfl, k3⟩
        go_wp2
        go_ret
        rw [HE.out]
        exact ⟨rfl, below_next hbw2 k3⟩
    · have HE : Hid (R = true) := Lib.hid (by rw [← HR.out]; exact isSome_of (HP.out.done hp))
      have hnx : ∀ ty, (Instr.next (.pointer (some ⟨w.heap.size, 0, none⟩)) true ty).run Tryd.prog wr = _ := fun ty => Lib.run_next_end_at wr w.heap.size (str s) pos ty hit hp
      go_wp2
      go_ret
      rw [HE.out]
      exact ⟨rfl, hb⟩

end Go.Proofs.YtpgaebdaakllaaaDoor
