/-
  The program's Decode, Valid, Cut, Script.
-/
import Derived.Test.YtidbkllhlllnnaaDoorRange
import Derived.Test.YtidbkllhlllnnaaDoorRefCut
namespace Go.Proofs.YtidbkllhlllnnaaDoor
open Go.RowKit

set_option maxRecDepth 20000 in
set_option maxHeartbeats 1600000 in
theorem prDecode_any (s : List UInt8) (w : World) (hS : Spans w) (hlen : s.length ≤ 10000) :
    Calls Tryd.prog 14 #[.string (str s)] w fun e w' => DecEnd w (decR s) e w' ∧ Below w.heap.size w w' := by
  have hsz : (str s).size = s.length := rfl
  have hE := Lib.hid (encoded_any s w hS)
  cases hr : decR s with
  | none =>
    rw [hr] at hE
    go_enter Tryd.func14, Tryd.ntmps14
    go_wp2_with fail
    refine hE.out.mono ?_
    rintro e w1 ⟨rfl, k1⟩
    simp only [Option.isSome_none]
    go_wp2
    go_ret2
    exact ⟨DecEnd.bad, k1⟩
  | some L =>
    rw [hr] at hE
    have HR := Lib.hid hr
    clear hr
    go_enter Tryd.func14, Tryd.ntmps14
    go_wp2_with fail
    refine hE.out.mono ?_
    rintro e w1 ⟨rfl, k1⟩
    simp only [Option.isSome_some]
    have k1s := k1.size
    go_wp2
    go_loopw [4] (fun v wr => ∃ (pos : Nat) (l : List Nat), wr.heap[w1.heap.size]? = some (.stringIter (str s) pos) ∧ Hid (Past s pos l) ∧ wr.ownsRow (w1.heap.size + 1) 3 1 v l.length (l.map nv) ∧ Below w1.heap.size w1 wr) (fun _ wr => s.length - wr.iterPos w1.heap.size)
    case atStart =>
      exact ⟨0, [], World.iter_heap w1 (str s) 0, Lib.hid (Past.start s), World.ownsRow_nil _ _ _ _, (Below.refl _ _).alloc (Nat.le_refl _) _⟩
    case round =>
      obtain ⟨pos, l, hit, HP, hown, hb⟩ := hrel
      have hks : w1.heap.size < wr.heap.size := (Array.getElem?_eq_some_iff.1 hit).1
      by_cases hp : pos < s.length
      · have hown2 := own_iter hown hit (pos + (Utf8.decode (str s) pos).2)
        obtain ⟨c, n, hcn⟩ : ∃ c n, Utf8.decode (str s) pos = (c, n) := ⟨_, _, rfl⟩
        have hnx : ∀ ty, (Instr.next (.pointer (some ⟨w1.heap.size, 0, none⟩)) true ty).run Tryd.prog wr = _ := fun ty => Lib.run_next_any_at wr w1.heap.size (str s) pos ty hit hp
        have hit2 := Lib.iterAt_heap wr w1.heap.size (str s) pos (pos + (Utf8.decode (str s) pos).2) hit
        have hbw2 := Lib.below_iterAt hb (k := w1.heap.size) (Nat.le_refl _) (str s) (pos + (Utf8.decode (str s) pos).2)
        have hcm := decode_le (str s) pos
        simp only [hcn] at hnx hit2 hbw2 hcm hown2
        have hcz : (c : Int) ≤ 2147483647 := by omega
        have hcz0 : (0 : Int) ≤ (c : Int) := by omega
        have hc : hasR (c : Int) = true := by
          cases hc : hasR (c : Int) with
          | true => rfl
          | false => have h := HP.out.rune_bad hp hcn hc; rw [HR.out] at h; cases h
        obtain ⟨h1, h0⟩ := HP.out.rune hp hcn hc
        have HN := Lib.hid h1
        have hle := h1.1
        have hll := HP.out.2.1
        have hsb : w1.heap.size + 1 ≤ (wr.iterAt w1.heap.size (str s) (pos + n)).heap.size := by rw [Lib.iterAt_size]; omega
        clear hcn h1 hc
        go_wp2_with (at_builtin; refine append_int (wr.iterAt w1.heap.size (str s) (pos + n)) rfl (.tmp 15) (.tmp 18) rfl (w1.heap.size + 1) u4 l rfl hown2 c _ rfl rfl (by omega) hsb ?_; intro r1 w3 hown3 hb3)
        go_roundw
        case rel => exact ⟨pos + n, l ++ [c], (hb3.block _ (by omega)).trans hit2, HN, hown3, hbw2.trans (hb3.mono (by omega))⟩
        case measure =>
          rw [iterPos_at ((hb3.block _ (by omega)).trans hit2), iterPos_at hit]
          omega
      · have HE : Hid (L = l) := Lib.hid (by
          have h := HP.out.done hp
          rw [HR.out] at h
          exact Option.some.inj h)
        have hnx : ∀ ty, (Instr.next (.pointer (some ⟨w1.heap.size, 0, none⟩)) true ty).run Tryd.prog wr = _ := fun ty => Lib.run_next_end_at wr w1.heap.size (str s) pos ty hit hp
        go_wp2
        go_ret2
        rw [HE.out]
        exact ⟨DecEnd.good (own_less (by omega) hown), below_next k1 hb⟩

theorem Past.took {s : List UInt8} {k : Nat} {l L : List Nat} (h : Past s k l) (hr : decR s = some L) : (∃ m, L = l ++ m) ∧ s.take k = encL l := by
  have h1 := h.2.2
  rw [hr] at h1
  cases hm : decR (s.drop k) with
  | none => rw [hm] at h1; cases h1
  | some m =>
    rw [hm] at h1
    have h2 : L = l ++ m := Option.some.inj h1
    refine ⟨⟨m, h2⟩, ?_⟩
    have e1 := (enc_dec hr).1
    have e2 := (enc_dec hm).1
    rw [h2, encL_app, e2] at e1
    have e3 : s.take k ++ s.drop k = s := List.take_append_drop k s
    rw [← e1] at e3
    conv at e3 => rhs; rw [← e1]
    exact (List.append_left_inj _).1 (by rw [e1] at e3; rw [e3])
theorem str_head {P : Program} (T : TypeId) (hT : P.underlying T = some .string) (s : List UInt8) (k : Nat) (h : k ≤ s.length) (W : World) :
    (Instr.sliceAt T (.string (str s)) none (some (.int .i64 (k : Int))) none).run P W = .ok (.string (str (s.take k))) W := by
  rw [run_sliceAt_string W _ _ _ _ _ hT, run_slice_string_h W _ _ hT .i64 (k : Int) (by omega) (by show (k : Int) ≤ (s.length : Int); omega)]
  congr 2
  apply ByteArray.ext
  simp [str]

set_option maxRecDepth 20000 in
set_option maxHeartbeats 1600000 in
theorem prCut_any (s : List UInt8) (n : Int) (w : World) (hS : Spans w) (hn : n ≤ 9223372036854775807) :
    Calls Tryd.prog 24 #[.string (str s), .int .i64 n] w fun e w' => e = .returned (.string (str (cutR s n))) ∧ Below w.heap.size w w' := by
  have hsz : (str s).size = s.length := rfl
  obtain ⟨R, hR⟩ : ∃ R, cutR s n = R := ⟨_, rfl⟩
  rw [hR]
  have HR := Lib.hid hR
  clear hR
  have hE := Lib.hid (encoded_any s w hS)
  by_cases h1 : n < 1
  · have t1 : decide (n < 1) = true := by simpa using h1
    have HE : Hid (R = []) := Lib.hid (by rw [← HR.out, cutR_less h1])
    go_enter Tryd.func24, Tryd.ntmps24
    go_wp2
    go_ret
    rw [HE.out]
    exact ⟨rfl, Below.refl _ _⟩
  have t1 : decide (n < 1) = false := by simpa using h1
  cases hr : decR s with
  | none =>
    rw [hr] at hE
    have HE : Hid (R = []) := Lib.hid (by rw [← HR.out, cutR_none hr])
    clear hr
    go_enter Tryd.func24, Tryd.ntmps24
    go_wp2_with fail
    refine hE.out.mono ?_
    rintro e w1 ⟨rfl, k1⟩
    simp only [Option.isSome_none]
    go_wp2
    go_ret
    rw [HE.out]
    exact ⟨rfl, k1⟩
  | some L =>
    rw [hr] at hE
    have HD := Lib.hid hr
    have HRL : Hid (R = encL (L.take n.toNat)) := Lib.hid (by rw [← HR.out, cutR_some hr h1])
    clear hr
    go_enter Tryd.func24, Tryd.ntmps24
    go_wp2_with fail
    refine hE.out.mono ?_
    rintro e w1 ⟨rfl, k1⟩
    simp only [Option.isSome_some]
    go_wp2
    go_loopw [1] (fun v wr => ∃ (pos : Nat) (l : List Nat) (k : Nat) (m : Int), wr.heap[w1.heap.size]? = some (.stringIter (str s) pos) ∧ Hid (Past s pos l) ∧ Hid (l.length = k) ∧ k ≤ s.length ∧ (k : Int) ≤ n ∧ v = .int .i64 m ∧ m = n - (k : Int) ∧ Below w1.heap.size w1 wr) (fun _ wr => s.length - wr.iterPos w1.heap.size)
    case atStart =>
      exact ⟨0, [], 0, n, World.iter_heap w1 (str s) 0, Lib.hid (Past.start s), Lib.hid rfl, Nat.zero_le _, by omega, rfl, by omega, (Below.refl _ _).alloc (Nat.le_refl _) _⟩
    case round =>
      obtain ⟨pos, l, k, m, hit, HP, HK, hk, hkn, rfl, hm, hb⟩ := hrel
      have hks : w1.heap.size < wr.heap.size := (Array.getElem?_eq_some_iff.1 hit).1
      by_cases hp : pos < s.length
      · obtain ⟨c, n1, hcn⟩ : ∃ c n1, Utf8.decode (str s) pos = (c, n1) := ⟨_, _, rfl⟩
        have hnx : ∀ ty, (Instr.next (.pointer (some ⟨w1.heap.size, 0, none⟩)) true ty).run Tryd.prog wr = _ := fun ty => Lib.run_next_any_at wr w1.heap.size (str s) pos ty hit hp
        have hit2 := Lib.iterAt_heap wr w1.heap.size (str s) pos (pos + (Utf8.decode (str s) pos).2) hit
        have hbw2 := Lib.below_iterAt hb (k := w1.heap.size) (Nat.le_refl _) (str s) (pos + (Utf8.decode (str s) pos).2)
        have hcm := decode_le (str s) pos
        simp only [hcn] at hnx hit2 hbw2 hcm
        have hc : hasR (c : Int) = true := by
          cases hc : hasR (c : Int) with
          | true => rfl
          | false => have h := HP.out.rune_bad hp hcn hc; rw [HD.out] at h; cases h
        obtain ⟨h2, h0⟩ := HP.out.rune hp hcn hc
        obtain ⟨h3, h4⟩ := HP.out.took HD.out
        by_cases hm0 : m = 0
        · have t2 : (m == 0) = true := by simpa using hm0
          have HE : Hid (R = s.take pos) := Lib.hid (by
            obtain ⟨m2, h3⟩ := h3
            rw [HRL.out, h4, h3, List.take_append_of_le_length (by rw [HK.out]; omega), List.take_of_length_le (by rw [HK.out]; omega)])
          have hsl := str_head (P := Tryd.prog) 9 Tryd.underlying9 s pos (by omega)
          clear hcn h2 hc h3 h4
          go_wp2
          go_ret
          rw [HE.out]
          exact ⟨rfl, below_next k1 hbw2⟩
        · have t2 : (m == 0) = false := by simpa using hm0
          have HN := Lib.hid h2
          have hle := h2.1
          have hll := h2.2.1
          rw [List.length_append, List.length_singleton, HK.out] at hll
          have HK2 : Hid ((l ++ [c]).length = k + 1) := Lib.hid (by rw [List.length_append, List.length_singleton, HK.out])
          clear hcn h2 hc h3 h4
          go_wp2
          go_roundw
          case rel => exact ⟨pos + n1, l ++ [c], k + 1, _, hit2, HN, HK2, by omega, by omega, rfl, by omega, hbw2⟩
          case measure =>
            rw [iterPos_at hit2, iterPos_at hit]
            omega
      · have HE : Hid (R = s) := Lib.hid (by
          have h := HP.out.done hp
          rw [HD.out] at h
          have h2 : L = l := Option.some.inj h
          rw [HRL.out, h2, List.take_of_length_le (by rw [HK.out]; omega), ← h2]
          exact (enc_dec HD.out).1)
        have hnx : ∀ ty, (Instr.next (.pointer (some ⟨w1.heap.size, 0, none⟩)) true ty).run Tryd.prog wr = _ := fun ty => Lib.run_next_end_at wr w1.heap.size (str s) pos ty hit hp
        go_wp2
        go_ret
        rw [HE.out]
        exact ⟨rfl, below_next k1 hb⟩

/-- One character more: the script so far. -/
def stp (o c : Nat) : Nat := if o = 0 then (clsR (c : Int)).1 else if (clsR (c : Int)).1 ≠ 0 ∧ (clsR (c : Int)).1 ≠ o then 4 else o
theorem cls3N (c : Int) : (clsN c).1 ≤ 3 := by
  unfold clsN
  repeat' split
  all_goals decide
theorem cls3 (c : Int) : (clsR c).1 ≤ 3 := by
  unfold clsR
  split
  · exact cls3N _
  · exact cls3N _
theorem stp_mixed : ∀ l : List Nat, l.foldl stp 4 = 4
  | [] => rfl
  | c :: l => by
    have h := cls3 (c : Int)
    have e : stp 4 c = 4 := by
      unfold stp
      rw [if_neg (by decide)]
      split <;> rfl
    rw [List.foldl_cons, e]
    exact stp_mixed l
theorem stp_scr : ∀ (l : List Nat) (o : Nat), l.foldl stp o = scrF o l
  | [], o => rfl
  | c :: l, o => by
    rw [List.foldl_cons]
    by_cases h0 : (clsR (c : Int)).1 = 0
    · rw [scr_none h0]
      have e : stp o c = o := by
        unfold stp
        by_cases ho : o = 0
        · rw [if_pos ho, h0, ho]
        · rw [if_neg ho, if_neg (fun h => h.1 h0)]
      rw [e]
      exact stp_scr l o
    · by_cases ho : o = 0
      · rw [scr_next h0 (.inl ho)]
        have e : stp o c = (clsR (c : Int)).1 := by unfold stp; rw [if_pos ho]
        rw [e]
        exact stp_scr l _
      · by_cases h1 : (clsR (c : Int)).1 = o
        · rw [scr_next h0 (.inr h1)]
          have e : stp o c = (clsR (c : Int)).1 := by unfold stp; rw [if_neg ho, if_neg (fun h => h.2 h1), h1]
          rw [e]
          exact stp_scr l _
        · rw [scr_mixed h0 ho h1]
          have e : stp o c = 4 := by unfold stp; rw [if_neg ho, if_pos ⟨h0, h1⟩]
          rw [e]
          exact stp_mixed l
theorem scriptR_some {s : List UInt8} {l : List Nat} (h : decR s = some l) : scriptR s = l.foldl stp 0 := by unfold scriptR; rw [h, stp_scr]
theorem scriptR_none {s : List UInt8} (h : decR s = none) : scriptR s = 0 := by unfold scriptR; rw [h]

set_option maxRecDepth 20000 in
set_option maxHeartbeats 1600000 in
theorem prScript_any (s : List UInt8) (w : World) (hS : Spans w) :
    Calls Tryd.prog 20 #[.string (str s)] w fun e w' => e = .returned (.int .i64 (scriptR s : Int)) ∧ Below w.heap.size w w' := by
  have hsz : (str s).size = s.length := rfl
  obtain ⟨R, hR⟩ : ∃ R, scriptR s = R := ⟨_, rfl⟩
  rw [hR]
  have HR := Lib.hid hR
  clear hR
  go_enter Tryd.func20, Tryd.ntmps20
  go_wp2
  go_loopw [3] (fun v wr => ∃ (pos : Nat) (l : List Nat) (o : Nat), wr.heap[w.heap.size]? = some (.stringIter (str s) pos) ∧ Hid (Past s pos l) ∧ Hid (l.foldl stp 0 = o) ∧ v = .int .i64 (o : Int) ∧ Below w.heap.size w wr) (fun _ wr => s.length - wr.iterPos w.heap.size)
  case atStart =>
    exact ⟨0, [], 0, World.iter_heap w (str s) 0, Lib.hid (Past.start s), Lib.hid rfl, rfl, (Below.refl _ _).alloc (Nat.le_refl _) _⟩
  case round =>
    obtain ⟨pos, l, o, hit, HP, HO, rfl, hb⟩ := hrel
    have hks : w.heap.size < wr.heap.size := (Array.getElem?_eq_some_iff.1 hit).1
    by_cases hp : pos < s.length
    · obtain ⟨c, n, hcn⟩ : ∃ c n, Utf8.decode (str s) pos = (c, n) := ⟨_, _, rfl⟩
      have hnx : ∀ ty, (Instr.next (.pointer (some ⟨w.heap.size, 0, none⟩)) true ty).run Tryd.prog wr = _ := fun ty => Lib.run_next_any_at wr w.heap.size (str s) pos ty hit hp
      have hit2 := Lib.iterAt_heap wr w.heap.size (str s) pos (pos + (Utf8.decode (str s) pos).2) hit
      have hbw2 := Lib.below_iterAt hb (k := w.heap.size) (Nat.le_refl _) (str s) (pos + (Utf8.decode (str s) pos).2)
      have hcm := decode_le (str s) pos
      simp only [hcn] at hnx hit2 hbw2 hcm
      have hcz : (c : Int) ≤ 2147483647 := by omega
      have hcz0 : (0 : Int) ≤ (c : Int) := by omega
      have hS2 : Spans _ := hS.below hbw2
      have hC := prClass_any (c : Int) _ hS2
      obtain ⟨S, hs⟩ : ∃ S, (clsR (c : Int)).1 = S := ⟨_, rfl⟩
      obtain ⟨K, hk⟩ : ∃ K, (clsR (c : Int)).2 = K := ⟨_, rfl⟩
      rw [hs, hk] at hC
      have HC := Lib.hid hC
      by_cases hK : K = 0
      · have t1 : ((K : Int) == 0) = true := by rw [hK]; rfl
        have hn := HP.out.rune_bad hp hcn (show hasR (c : Int) = false by unfold hasR kindR; rw [hk, hK]; rfl)
        have HE : Hid (R = 0) := Lib.hid (by rw [← HR.out]; exact scriptR_none hn)
        clear hcn hn hK hC hs hk
        go_wp2_with fail
        refine HC.out.mono ?_
        rintro e w3 ⟨rfl, k3⟩
        unfold two
        go_wp2
        go_ret
        rw [HE.out]
        exact ⟨rfl, below_next hbw2 k3⟩
      have t1 : ((K : Int) == 0) = false := eqb_false (by omega)
      obtain ⟨h1, h0⟩ := HP.out.rune hp hcn (show hasR (c : Int) = true by unfold hasR kindR; rw [hk]; simp [hK])
      have HN := Lib.hid h1
      have hle := h1.1
      have hst : (l ++ [c]).foldl stp 0 = stp o c := by rw [List.foldl_append, HO.out]; rfl
      clear h1 hcn
      by_cases ho : o = 0
      · have t2 : ((o : Int) == 0) = true := by rw [ho]; rfl
        have HO2 : Hid ((l ++ [c]).foldl stp 0 = S) := Lib.hid (by rw [hst]; unfold stp; rw [if_pos ho, hs])
        clear hst hK hC hs hk ho
        go_wp2_with fail
        refine HC.out.mono ?_
        rintro e w3 ⟨rfl, k3⟩
        unfold two
        go_wp2
        go_roundw
        case rel => exact ⟨pos + n, l ++ [c], S, (k3.block _ (Array.getElem?_eq_some_iff.1 hit2).1).trans hit2, HN, HO2, rfl, below_next hbw2 k3⟩
        case measure =>
          rw [iterPos_at ((k3.block _ (Array.getElem?_eq_some_iff.1 hit2).1).trans hit2), iterPos_at hit]
          omega
      have t2 : ((o : Int) == 0) = false := eqb_false (by omega)
      by_cases hS0 : S = 0
      · have t3 : ((S : Int) != 0) = false := by rw [hS0]; rfl
        have HO2 : Hid ((l ++ [c]).foldl stp 0 = o) := Lib.hid (by rw [hst]; unfold stp; rw [if_neg ho, hs, if_neg (fun h => h.1 hS0)])
        clear hst hK hC hs hk ho hS0
        go_wp2_with fail
        refine HC.out.mono ?_
        rintro e w3 ⟨rfl, k3⟩
        unfold two
        go_wp2
        go_roundw
        case rel => exact ⟨pos + n, l ++ [c], o, (k3.block _ (Array.getElem?_eq_some_iff.1 hit2).1).trans hit2, HN, HO2, rfl, below_next hbw2 k3⟩
        case measure =>
          rw [iterPos_at ((k3.block _ (Array.getElem?_eq_some_iff.1 hit2).1).trans hit2), iterPos_at hit]
          omega
      have t3 : ((S : Int) != 0) = true := by simp; omega
      by_cases hSo : S = o
      · have t4 : ((S : Int) != (o : Int)) = false := by rw [hSo]; simp
        have HO2 : Hid ((l ++ [c]).foldl stp 0 = o) := Lib.hid (by rw [hst]; unfold stp; rw [if_neg ho, hs, if_neg (fun h => h.2 hSo)])
        clear hst hK hC hs hk ho hS0 hSo
        go_wp2_with fail
        refine HC.out.mono ?_
        rintro e w3 ⟨rfl, k3⟩
        unfold two
        go_wp2
        go_roundw
        case rel => exact ⟨pos + n, l ++ [c], o, (k3.block _ (Array.getElem?_eq_some_iff.1 hit2).1).trans hit2, HN, HO2, rfl, below_next hbw2 k3⟩
        case measure =>
          rw [iterPos_at ((k3.block _ (Array.getElem?_eq_some_iff.1 hit2).1).trans hit2), iterPos_at hit]
          omega
      · have t4 : ((S : Int) != (o : Int)) = true := by simp; omega
        have HO2 : Hid ((l ++ [c]).foldl stp 0 = 4) := Lib.hid (by rw [hst]; unfold stp; rw [if_neg ho, hs, if_pos ⟨hS0, hSo⟩])
        clear hst hK hC hs hk ho hS0 hSo
        go_wp2_with fail
        refine HC.out.mono ?_
        rintro e w3 ⟨rfl, k3⟩
        unfold two
        go_wp2
        go_roundw
        case rel => exact ⟨pos + n, l ++ [c], 4, (k3.block _ (Array.getElem?_eq_some_iff.1 hit2).1).trans hit2, HN, HO2, rfl, below_next hbw2 k3⟩
        case measure =>
          rw [iterPos_at ((k3.block _ (Array.getElem?_eq_some_iff.1 hit2).1).trans hit2), iterPos_at hit]
          omega
    · have HE : Hid (R = o) := Lib.hid (by rw [← HR.out, scriptR_some (HP.out.done hp), HO.out])
      have hnx : ∀ ty, (Instr.next (.pointer (some ⟨w.heap.size, 0, none⟩)) true ty).run Tryd.prog wr = _ := fun ty => Lib.run_next_end_at wr w.heap.size (str s) pos ty hit hp
      go_wp2
      go_ret
      rw [HE.out]
      exact ⟨rfl, hb⟩

set_option maxRecDepth 20000 in
set_option maxHeartbeats 1600000 in
theorem prValid_any (s : List UInt8) (w : World) (hS : Spans w) (hlen : s.length ≤ 10000) :
    Calls Tryd.prog 18 #[.string (str s)] w fun e w' => e = .returned (.bool (validR s)) ∧ Below w.heap.size w w' := by
  have hsz : (str s).size = s.length := rfl
  obtain ⟨R, hR⟩ : ∃ R, R = validR s := ⟨_, rfl⟩
  rw [← hR]
  unfold validR at hR
  by_cases h0 : s.length = 0
  · obtain rfl := List.length_eq_zero_iff.1 h0
    have t0 : (str []).toList.isEmpty = true := by rw [str_toList]; rfl
    have HE : Hid (R = false) := Lib.hid (by rw [hR]; rfl)
    clear hR h0
    go_enter Tryd.func18, Tryd.ntmps18
    go_wp2
    go_ret
    exact ⟨ret_bool HE.out.symm, Below.refl _ _⟩
  have t0 : (str s).toList.isEmpty = false := by
    rw [str_toList]
    cases s with
    | nil => exact absurd rfl h0
    | cons a s => rfl
  rw [decide_eq_true (show 1 ≤ s.length by omega), Bool.true_and] at hR
  by_cases h4 : 400 < s.length
  · have t1 : decide (400 < (s.length : Int)) = true := by simp; omega
    have HE : Hid (R = false) := Lib.hid (by rw [hR, decide_eq_false (show ¬ s.length ≤ 400 by omega)]; rfl)
    clear hR
    go_enter Tryd.func18, Tryd.ntmps18
    go_wp2
    go_ret
    exact ⟨ret_bool HE.out.symm, Below.refl _ _⟩
  have t1 : decide (400 < (s.length : Int)) = false := by simp; omega
  rw [decide_eq_true (show s.length ≤ 400 by omega), Bool.true_and] at hR
  have hp : 0 < (str s).size := by omega
  by_cases h5 : (str s)[0].toNat = 32
  · have t2 : (((str s)[0].toNat : Int) == 32) = true := eqb_true (by omega)
    have HE : Hid (R = false) := Lib.hid (by rw [hR, decide_eq_false (show ¬ s[0]? ≠ some 32 from fun h => h ((at32 hp).2 h5))]; rfl)
    clear hR
    go_enter Tryd.func18, Tryd.ntmps18
    go_wp2
    go_ret
    exact ⟨ret_bool HE.out.symm, Below.refl _ _⟩
  have t2 : (((str s)[0].toNat : Int) == 32) = false := eqb_false (by omega)
  rw [decide_eq_true (show s[0]? ≠ some 32 from fun h => h5 ((at32 hp).1 h)), Bool.true_and] at hR
  obtain ⟨m, hm⟩ : ∃ m, m + 1 = s.length := ⟨s.length - 1, by omega⟩
  have hm0 : m < (str s).size := by omega
  have hml : (s.length : Int) - 1 = (m : Int) := by omega
  have hmn : s.length - 1 = m := by omega
  rw [hmn] at hR
  have HD := Lib.hid (encoded_any s w hS)
  rw [← hm] at t1 hsz
  by_cases h6 : (str s)[m].toNat = 32
  · have t3 : (((str s)[m].toNat : Int) == 32) = true := eqb_true (by omega)
    have HE : Hid (R = false) := Lib.hid (by rw [hR, decide_eq_false (show ¬ s[m]? ≠ some 32 from fun h => h ((at32 hm0).2 h6))]; rfl)
    clear hR
    go_enter Tryd.func18, Tryd.ntmps18
    go_wp2
    go_ret
    exact ⟨ret_bool HE.out.symm, Below.refl _ _⟩
  · have t3 : (((str s)[m].toNat : Int) == 32) = false := eqb_false (by omega)
    rw [decide_eq_true (show s[m]? ≠ some 32 from fun h => h6 ((at32 hm0).1 h)), Bool.true_and] at hR
    rw [← hR] at HD
    clear hR
    go_enter Tryd.func18, Tryd.ntmps18
    go_wp2_with fail
    refine HD.out.mono ?_
    rintro e w1 ⟨rfl, hb⟩
    go_wp2
    go_ret
    exact ⟨rfl, hb⟩

end Go.Proofs.YtidbkllhlllnnaaDoor
