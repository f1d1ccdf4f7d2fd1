/-
  The program's decomposed, encode, Decompose, Marks.
  The program's own Fold.
  The program's own Search: its closure, and the loop.
  The program's own Search, Is, Alike.
-/
import Derived.Test.YtbnchnbblchmnaaGreatDoorPkAV
import Derived.Test.YtbnchnbblchmnaaGreatDoorPkAO
import Derived.Test.YtbnchnbblchmnaaGreatDoorPkAP
namespace Go.Proofs.YtbnchnbblchmnaaGreatDoor
open Go.RowKit

set_option maxRecDepth 100000 in
set_option maxHeartbeats 3200000 in
theorem sortMarks_none (A : Option Addr) (c : Nat) (w : World) :
    Calls Tryz.prog 115 #[.slice A 0 c] w fun e w' => e = .returned (.tuple #[]) ∧ w' = w := by
  have HSS := Lib.hid (fun W => sortStable_none A c W)
  go_enter Tryz.func115, Tryz.ntmps115
  go_wp2
  go_loopw [3, 4, 5, 8] (fun s3 _ _ s8 wr => s3 = .int .i64 0 ∧ s8 = .int .i64 0 ∧ wr = w) (fun _ _ _ _ _ => 0)
  case atStart => exact ⟨rfl, rfl, rfl⟩
  case round =>
    obtain ⟨rfl, rfl, rfl⟩ := hrel
    go_wp2_with fail
    refine (HSS.out _).mono ?_
    rintro e w3 ⟨rfl, rfl⟩
    go_wp2
    go_end0
    exact ⟨rfl, rfl⟩

/-- sortMarks over a row of the call's own. -/
theorem sortMarks_own (base : Nat) (v : Value) (D : List Nat) (w : World) (hS : Spans w) (hb0 : 0 < base) (hbw : base ≤ w.heap.size) (hD : D.length ≤ 1000000) (hown : w.ownsRow base 3 1 v D.length (D.map nv)) :
    Calls Tryz.prog 115 #[v] w fun e w' => e = .returned (.tuple #[]) ∧ w'.ownsRow base 3 1 v (sortB clM [] D).reverse.length ((sortB clM [] D).reverse.map nv) ∧ Below base w w' := by
  by_cases h0 : D.length = 0
  · have hA := Arr.of_own hown
    obtain ⟨A, c, rfl⟩ := hA.form
    have hnil := List.length_eq_zero_iff.1 h0
    subst hnil
    refine (sortMarks_none A c w).mono ?_
    rintro e w' ⟨rfl, rfl⟩
    exact ⟨rfl, hown, Below.refl _ _⟩
  · obtain ⟨g, cap, cur, rfl, k1, k2, k3, k4, k5, k6⟩ := own_open hown (by omega)
    refine (sortMarks_row g D.length cap D w hS (by omega) rfl k3 hD ⟨cur, k2, k5, k6⟩).mono ?_
    rintro e w' ⟨rfl, ⟨cu, h1, h2, h3⟩, hg⟩
    have hl : (sortB clM [] D).reverse.length = D.length := by rw [List.length_reverse, sort_len]; simp
    rw [hl] at h3
    exact ⟨rfl, own_M hl k1 h1 k3 k4 h2 h3, below_grown (Below.refl _ _) hg hbw fun g' hg' => (by cases hg'; exact k1)⟩

set_option maxRecDepth 100000 in
set_option maxHeartbeats 6400000 in
theorem prDecom_any (s : List UInt8) (w : World) (hS : Spans w) (hlen : s.length ≤ 10000) :
    Calls Tryz.prog 75 #[.string (str s)] w fun e w' => ∃ v, e = .returned (.tuple #[v, .bool (decR s).isSome]) ∧ w'.ownsRow w.heap.size 3 1 v (dcF (nL s)).length ((dcF (nL s)).map nv) ∧ Below w.heap.size w w' := by
  have HD := Lib.hid (prDecode_any s w hS hlen)
  have HS := Lib.hid hS
  obtain ⟨F, hF⟩ : ∃ F, dcF (nL s) = F := ⟨_, rfl⟩
  rw [hF]
  have HF := Lib.hid hF
  obtain ⟨R, hR⟩ : ∃ R, (decR s).isSome = R := ⟨_, rfl⟩
  rw [hR]
  have HR := Lib.hid hR
  clear hF hR hS
  go_enter Tryz.func75, Tryz.ntmps75
  go_wp2_with fail
  refine HD.out.mono ?_
  rintro e w1 ⟨hd, hb1⟩
  obtain ⟨A, n, cp, b, rfl, hcase⟩ := hd.form
  rcases hcase with ⟨rfl, l, h1, h2, hA, _⟩ | ⟨rfl, h1, rfl, rfl, rfl⟩
  · have HL : Hid (nL s = l) := Lib.hid (by unfold nL; rw [h1]; rfl)
    have HRt : Hid (R = true) := Lib.hid (by rw [← HR.out, h1]; rfl)
    have HLn : Hid (l.length = n) := Lib.hid h2.symm
    have HOK : Hid (∀ c ∈ l, okC c) := Lib.hid (enc_dec h1).2
    have hn : n ≤ 10000 := by have := dec_len h1; omega
    have hmk : ∀ W, (Instr.makeSlice 27 (.int .i64 0) (.int .i64 (n : Int))).run Tryz.prog W = .ok (.slice (some ⟨W.heap.size, 0, none⟩) 0 n) (W.alloc (.cells (madeOf (.int .i64 0) n) 3)) := fun W => make_ints 0 n (Nat.zero_le _) (by omega) W
    have hw1 : 0 < w1.heap.size := (HS.out.below hb1).lt
    have HS1 := Lib.hid (HS.out.below hb1)
    clear hd h1 h2
    go_wp2
    go_loopw [6, 8, 21] (fun v _ i wr => ∃ (k : Nat) (O : List Nat), k ≤ n ∧ i = .int .i64 (k : Int) ∧ O.length ≤ 2 * k ∧ Hid (O = (l.take k).flatMap wholeR) ∧ wr.ownsRow w1.heap.size 3 1 v O.length (O.map nv) ∧ Below w1.heap.size w1 wr) (fun _ _ i _ => n - (intOf i).toNat)
    case atStart =>
      refine ⟨0, [], by omega, rfl, by simp, Lib.hid rfl, ?_, below_new (Below.refl _ _) _⟩
      have h := own_box (base := w1.heap.size) (n := 0) (Box.made w1 3 (madeOf (.int .i64 0) n)) (madeOf_size _ _) (Nat.zero_le n) (by unfold maxLen; omega) (Nat.le_refl _)
      exact h
    case round =>
      obtain ⟨k, O, hk, rfl, hOl, HO, hown, hb⟩ := hrel
      have hbs := hb.size
      by_cases hlt : k < n
      · have t1 : decide ((k : Int) < (n : Int)) = true := by simp; omega
        obtain ⟨b0, o0, rfl, hB0, hc0⟩ := hA.some_ (by omega)
        obtain ⟨x, hx⟩ := get_some (l := l) (i := k) (by have := HLn.out; omega)
        have d0 := (hb.cell (p := ⟨b0, o0 + k, none⟩) hB0).trans (hc0 k x hx)
        simp only [nv] at d0
        have kz : (k : Int) < (n : Int) := by omega
        have HP := Lib.hid (prParts_any w1.heap.size _ O x wr (HOK.out x (List.mem_of_getElem? hx)) hbs (by omega) hown)
        have HX : Hid (O ++ wholeR x = (l.take (k + 1)).flatMap wholeR) := Lib.hid (by rw [take_next hx, List.flatMap_append, HO.out]; simp)
        have hX2 : (O ++ wholeR x).length ≤ 2 * (k + 1) := by rw [List.length_append]; have := whole_len x; omega
        obtain ⟨O2, hO2⟩ : ∃ O2, O ++ wholeR x = O2 := ⟨_, rfl⟩
        rw [hO2] at HP HX hX2
        clear hc0 hx hO2 hown
        go_wp2_with fail
        refine HP.out.mono ?_
        rintro e w2 ⟨v2, rfl, hown2, hb2⟩
        go_wp2
        go_roundw
        case rel => exact ⟨k + 1, O2, by omega, by go_num, hX2, HX, hown2, hb.trans hb2⟩
        case measure => simp [intOf]; omega
      · obtain rfl : k = n := by omega
        have HO2 : Hid (F = (sortB clM [] O).reverse) := Lib.hid (by
          rw [← HF.out, HL.out, HO.out, List.take_of_length_le (by rw [HLn.out]; exact Nat.le_refl _)]
          rfl)
        have HSM := Lib.hid (sortMarks_own w1.heap.size _ O wr (HS1.out.below hb) hw1 hbs (by omega) hown)
        rw [← HO2.out] at HSM
        clear hown
        go_wp2_with fail
        refine HSM.out.mono ?_
        rintro e w2 ⟨rfl, hown2, hb2⟩
        go_wp2
        go_ret2
        rw [HRt.out]
        exact ⟨_, rfl, own_less hb1.size hown2, below_next hb1 (hb.trans hb2)⟩
  · have HE : Hid (F = [] ∧ R = false) := Lib.hid ⟨by rw [← HF.out]; unfold nL; rw [h1]; rfl, by rw [← HR.out, h1]; rfl⟩
    clear hd h1
    go_wp2
    go_ret2
    rw [HE.out.1, HE.out.2]
    exact ⟨_, rfl, World.ownsRow_nil _ _ _ _, hb1⟩

theorem prEnc_own (base : Nat) (v : Value) (l : List Nat) (w : World) (hS : Spans w) (hown : w.ownsRow base 3 1 v l.length (l.map nv)) (hok : ∀ c ∈ l, okC c) (hl : l.length ≤ 10000) :
    Calls Tryz.prog 116 #[v] w fun e w' => e = .returned (.tuple #[.string (str (encL l)), .bool true]) ∧ Below w.heap.size w w' := by
  have hA := Arr.of_own hown
  obtain ⟨A, c, rfl⟩ := hA.form
  refine (prEncode_any A _ c _ w hS hA.int hl).mono ?_
  rintro e w' ⟨h1, h2⟩
  rw [encR_nats hok] at h1
  exact ⟨h1, h2⟩

set_option maxRecDepth 20000 in
set_option maxHeartbeats 1600000 in
theorem prEncS_any (base : Nat) (v : Value) (l : List Nat) (w : World) (hS : Spans w) (hown : w.ownsRow base 3 1 v l.length (l.map nv)) (hok : ∀ c ∈ l, okC c) (hl : l.length ≤ 10000) :
    Calls Tryz.prog 76 #[v] w fun e w' => e = .returned (.string (str (encL l))) ∧ Below w.heap.size w w' := by
  have HE := Lib.hid (prEnc_own base v l w hS hown hok hl)
  clear hown
  go_enter Tryz.func76, Tryz.ntmps76
  go_wp2_with fail
  refine HE.out.mono ?_
  rintro e w1 ⟨rfl, k1⟩
  go_wp2
  go_ret
  exact ⟨rfl, k1⟩

theorem dcL_len (s : List UInt8) (h : s.length ≤ 5000) : (dcF (nL s)).length ≤ 10000 := by
  have h1 := dcF_len (nL s)
  have h2 := nL_len s
  omega

set_option maxRecDepth 20000 in
set_option maxHeartbeats 1600000 in
theorem prDecompose_s (s : List UInt8) (w : World) (hS : Spans w) (hlen : s.length ≤ 5000) :
    Calls Tryz.prog 39 #[.string (str s)] w fun e w' => e = .returned (.string (str (nD s))) ∧ Below w.heap.size w w' := by
  have HD := Lib.hid (prDecom_any s w hS (by omega))
  have HS := Lib.hid hS
  have HL := Lib.hid (dcL_len s hlen)
  obtain ⟨R, hR⟩ : ∃ R, nD s = R := ⟨_, rfl⟩
  rw [hR]
  have HR : Hid (encL (dcF (nL s)) = R) := Lib.hid hR
  have HOK := Lib.hid (dcF_ok s)
  obtain ⟨l, hl⟩ : ∃ l, dcF (nL s) = l := ⟨_, rfl⟩
  rw [hl] at HD HR HOK HL
  clear hR hl hS
  go_enter Tryz.func39, Tryz.ntmps39
  go_wp2_with fail
  refine HD.out.mono ?_
  rintro e w1 ⟨v, rfl, hown, hb1⟩
  have HE := Lib.hid (prEncS_any _ v l w1 (HS.out.below hb1) hown HOK.out HL.out)
  clear hown
  go_wp2_with fail
  refine HE.out.mono ?_
  rintro e w2 ⟨rfl, hb2⟩
  go_wp2
  go_ret
  rw [HR.out]
  exact ⟨rfl, below_next hb1 hb2⟩

end Go.Proofs.YtbnchnbblchmnaaGreatDoor

namespace Go.Proofs.YtbnchnbblchmnaaGreatDoor
open Go.RowKit

theorem iterPos_of {w : World} {k : Nat} {s : ByteArray} {p : Nat} (h : w.heap[k]? = some (.stringIter s p)) : w.iterPos k = p := by simp [World.iterPos, h]
theorem foldL_snoc (l : List Nat) (c : Nat) : foldL (l ++ [c]) = foldL l ++ low1 c := by unfold foldL; rw [List.flatMap_append]; simp
theorem encL_foldL (l : List Nat) (c : Nat) : encL (foldL (l ++ [c])) = encL (foldL l) ++ encL (low1 c) := by rw [foldL_snoc, encL_app]
theorem foldL_len : ∀ l : List Nat, (foldL l).length ≤ 2 * l.length
  | [] => by simp [foldL]
  | c :: l => by
    have h1 := foldL_len l
    have h2 := low1_len c
    have e : foldL (c :: l) = low1 c ++ foldL l := List.flatMap_cons
    rw [e, List.length_append, List.length_cons]
    omega
theorem hasR_low {c : Nat} (h : hasR (c : Int) = true) : hasR (lowN c : Int) = true := by
  rw [hasN_eq] at h ⊢
  exact low_has h

set_option maxRecDepth 20000 in
set_option maxHeartbeats 3200000 in
theorem prFold_s (s : List UInt8) (w : World) (hS : Spans w) (hlen : s.length ≤ 5000) :
    Calls Tryz.prog 18 #[.string (str s)] w fun e w' => e = .returned (.string (str (nFold s))) ∧ Below w.heap.size w w' := by
  have hS1 : Spans (w.alloc (.cells #[.pointer none, .slice none 0 0] 77)) := hS.below (below_new (Below.refl _ _) _)
  have HD := Lib.hid (prDecompose_s s _ hS1 hlen)
  have hdl := nD_len s
  obtain ⟨R, hR⟩ : ∃ R, nFold s = R := ⟨_, rfl⟩
  rw [hR]
  have HR : Hid (encL (foldL (dcF (nL s))) = R) := Lib.hid hR
  have HT0 : decR (nD s) = some (dcF (nL s)) := enc_some (dcF_ok s)
  obtain ⟨d, hd⟩ : ∃ d, dcF (nL s) = d := ⟨_, rfl⟩
  obtain ⟨t, ht⟩ : ∃ t, nD s = t := ⟨_, rfl⟩
  rw [ht] at HD HT0 hdl
  rw [hd] at HR HT0
  have HT := Lib.hid HT0
  have hsz : (str t).size = t.length := rfl
  have HFr := Lib.hid (Built.fresh w)
  clear hR hd ht HT0 hS1 hS
  go_enter Tryz.func18, Tryz.ntmps18
  go_wp2_with fail
  refine HD.out.mono ?_
  rintro e w2 ⟨rfl, k2⟩
  have HI2 := Lib.hid (HFr.out.below k2)
  have hb2 : Below w.heap.size w w2 := (below_new (Below.refl _ _) _).trans (k2.mono (by simp))
  have hs2 : w.heap.size < w2.heap.size := by have := k2.size; simp at this; omega
  clear k2 HD HFr
  go_wp2
  go_loopw [] (fun wr => ∃ (pos : Nat) (l : List Nat), Built w.heap.size w.heap.size (encL (foldL l)) wr ∧ wr.heap[w2.heap.size]? = some (.stringIter (str t) pos) ∧ Hid (Past t pos l) ∧ Below w.heap.size w wr) (fun wr => t.length - wr.iterPos w2.heap.size)
  case atStart =>
    exact ⟨0, [], Lib.IsBuilderF.alloc HI2.out _, World.iter_heap w2 (str t) 0, Lib.hid (Past.start t), hb2.alloc hb2.size _⟩
  case round =>
    obtain ⟨pos, l, HI, hit, HP, hb⟩ := hrel
    have hks : w2.heap.size < wr.heap.size := (Array.getElem?_eq_some_iff.1 hit).1
    by_cases hp : pos < t.length
    · obtain ⟨c, n, hcn⟩ : ∃ c n, Utf8.decode (str t) pos = (c, n) := ⟨_, _, rfl⟩
      have hnx : ∀ ty, (Instr.next (.pointer (some ⟨w2.heap.size, 0, none⟩)) true ty).run Tryz.prog wr = _ := fun ty => Lib.run_next_any_at wr w2.heap.size (str t) pos ty hit hp
      have hit2 := Lib.iterAt_heap wr w2.heap.size (str t) pos (pos + (Utf8.decode (str t) pos).2) hit
      have hI2 := HI.iterAt hit (pos + (Utf8.decode (str t) pos).2)
      have hbw2 := Lib.below_iterAt hb (k := w2.heap.size) (by omega) (str t) (pos + (Utf8.decode (str t) pos).2)
      have hcm := decode_le (str t) pos
      simp only [hcn] at hnx hit2 hbw2 hcm hI2
      have hcz : (c : Int) ≤ 2147483647 := by omega
      have hcz0 : (0 : Int) ≤ (c : Int) := by omega
      have hc : hasR (c : Int) = true := by
        cases hc : hasR (c : Int) with
        | true => rfl
        | false => have h := HP.out.rune_bad hp hcn hc; rw [HT.out] at h; cases h
      obtain ⟨h1, h0⟩ := HP.out.rune hp hcn hc
      have HN := Lib.hid h1
      have hle := h1.1
      have hll := HP.out.2.1
      have hfl := foldL_len l
      have hel := encL_len (foldL l)
      have hsb : w.heap.size ≤ (wr.iterAt w2.heap.size (str t) (pos + n)).heap.size := by rw [Lib.iterAt_size]; omega
      have hEL := encL_foldL l c
      obtain ⟨W, hW⟩ : ∃ W, wr.iterAt w2.heap.size (str t) (pos + n) = W := ⟨_, rfl⟩
      rw [hW] at hnx hit2 hbw2 hI2 hsb
      by_cases hss : c = 223
      · have t1 : ((c : Int) == 223) = true := eqb_true (by omega)
        rw [hss, show encL (low1 223) = [115, 115] by decide +kernel, ← hss] at hEL
        have HC := Lib.hid (writeStr_k w.heap.size w.heap.size (encL (foldL l)) [115, 115] W hI2 (by omega) (by decide) hsb)
        rw [← hEL] at HC
        clear hcn h1 hc hW hss hEL
        go_wp2_with fail
        refine HC.out.mono ?_
        rintro e w4 ⟨⟨n4, rfl⟩, HI4, k4, o4⟩
        have hit4 := (Iters.of_kept hI2 o4) _ _ _ hit2
        go_wp2
        go_roundw
        case rel => exact ⟨pos + n, l ++ [c], HI4, hit4, HN, hbw2.trans k4⟩
        case measure =>
          rw [iterPos_of hit4, iterPos_of hit]
          omega
      · have t1 : ((c : Int) == 223) = false := eqb_false (by omega)
        have hlow : low1 c = [lowN c] := by
          rcases low1_head c with h | ⟨h, _⟩
          · exact h
          · exact absurd h hss
        have hcl := hasR_low hc
        rw [hlow, show encL [lowN c] = encC (lowN c) by simp [encL]] at hEL
        have HC := Lib.hid (writeRune_k w.heap.size w.heap.size (encL (foldL l)) (lowN c) W hcl hI2 (by omega) hsb)
        rw [← hEL] at HC
        have HL := Lib.hid (prLower_s (c : Int) W)
        rw [lowI_nat] at HL
        have hlz := (has_range hcl).2
        have hlz0 := (has_range hcl).1
        obtain ⟨y, hy⟩ : ∃ y, lowN c = y := ⟨_, rfl⟩
        rw [hy] at HC HL hlz hlz0
        have hlz2 : (y : Int) ≤ 65535 := by omega
        clear hcn h1 hc hW hss hEL hlow hcl hy hlz
        go_wp2_with fail
        refine HL.out.mono ?_
        rintro e w3 ⟨rfl, rfl⟩
        go_wp2_with fail
        refine HC.out.mono ?_
        rintro e w4 ⟨⟨n4, rfl⟩, HI4, k4, o4⟩
        have hit4 := (Iters.of_kept hI2 o4) _ _ _ hit2
        go_wp2
        go_roundw
        case rel => exact ⟨pos + n, l ++ [c], HI4, hit4, HN, hbw2.trans k4⟩
        case measure =>
          rw [iterPos_of hit4, iterPos_of hit]
          omega
    · have HE : Hid (R = encL (foldL l)) := Lib.hid (by
        have h := HP.out.done hp
        rw [HT.out] at h
        rw [← HR.out, Option.some.inj h])
      have hnx : ∀ ty, (Instr.next (.pointer (some ⟨w2.heap.size, 0, none⟩)) true ty).run Tryz.prog wr = _ := fun ty => Lib.run_next_end_at wr w2.heap.size (str t) pos ty hit hp
      have HC := Lib.hid (buildStr_k w.heap.size w.heap.size (encL (foldL l)) wr HI (by omega))
      go_wp2_with fail
      refine HC.out.mono ?_
      rintro e w4 ⟨rfl, k4⟩
      go_wp2
      go_ret
      rw [HE.out]
      exact ⟨rfl, hb.trans k4⟩

end Go.Proofs.YtbnchnbblchmnaaGreatDoor

namespace Go.Proofs.YtbnchnbblchmnaaGreatDoor
open Go.RowKit

/-- One folded character more: what is written so far, and whether a space is due. -/
def putS (O : List Nat) (d : Bool) (c : Nat) : List Nat × Bool :=
  if kN c = 2 then (O, d) else if kN c = 1 ∨ kN c = 3 then ((if d = true then O ++ [32] else O) ++ plainL c, false) else (O, decide (O ≠ []))
theorem put_len (O : List Nat) (d : Bool) (c : Nat) : (putS O d c).1.length ≤ O.length + 3 := by
  have h := plain_len c
  unfold putS
  split
  · simp
  split
  · rw [List.length_append]
    split
    · rw [List.length_append]; simp; omega
    · omega
  · simp
theorem hasR_of_good {e : Nat} (h : GoodE e) : hasR (e : Int) = true := by rw [hasN_eq]; exact h.has
theorem encC_32 : encC 32 = [32] := by decide

set_option maxRecDepth 20000 in
set_option maxHeartbeats 3200000 in
theorem prPut_any (B b D : Nat) (O : List Nat) (d : Bool) (c : Nat) (w : World) (hS : Spans w) (hc : hasR (c : Int) = true) (hI : Built B b (encL O) w) (hD : Box w D 4 #[.bool d]) (hDb : D ≠ b) (hBD : B ≤ D) (hBw : B ≤ w.heap.size) (hO : O.length ≤ 1000000) (hd : d = true → O ≠ []) :
    Calls Tryz.prog 46 #[.int .i64 (c : Int), .pointer (some ⟨D, 0, none⟩), .pointer (some ⟨b, 0, none⟩)] w fun e w' => e = .returned (.tuple #[]) ∧
      Built B b (encL (putS O d c).1) w' ∧ Box w' D 4 #[.bool (putS O d c).2] ∧ Below B w w' ∧ Iters w w' := by
  obtain ⟨O2, hO2⟩ : ∃ x, (putS O d c).1 = x := ⟨_, rfl⟩
  obtain ⟨d2, hd2⟩ : ∃ x, (putS O d c).2 = x := ⟨_, rfl⟩
  rw [hO2, hd2]
  have HCl := Lib.hid (prClass_any (c : Int) w hS)
  rw [clsF_eq] at HCl
  obtain ⟨a, ha⟩ : ∃ a, (clsF c).1 = a := ⟨_, rfl⟩
  obtain ⟨kd, hkd⟩ : ∃ kd, kN c = kd := ⟨_, rfl⟩
  rw [ha, show (clsF c).2 = kd from hkd] at HCl
  have hle := encL_len O
  have hbt : (4 : TypeId) ≠ 5 := by decide
  have HNext : Hid (∀ w1, Below w.heap.size w w1 → Built B b (encL O) w1 ∧ Box w1 D 4 #[.bool d] ∧ Below B w w1 ∧ Iters w w1 ∧ B ≤ w1.heap.size) := Lib.hid fun w1 k1 => ⟨hI.below k1, hD.below k1 hD.lt, k1.mono hBw, Iters.of_below k1, Nat.le_trans hBw k1.size⟩
  clear ha
  by_cases h2 : kd = 2
  · have t2 : ((kd : Int) == 2) = true := eqb_true (by omega)
    have HE : Hid (O2 = O ∧ d2 = d) := Lib.hid (by
      unfold putS at hO2 hd2
      rw [hkd, if_pos h2] at hO2 hd2
      exact ⟨hO2.symm, hd2.symm⟩)
    clear hO2 hd2 hkd h2 hd
    go_enter Tryz.func46, Tryz.ntmps46
    go_wp2_with fail
    refine HCl.out.mono ?_
    rintro e w1 ⟨rfl, k1⟩
    unfold two
    go_wp2
    go_end0
    obtain ⟨g1, g2, g3, g4, _⟩ := HNext.out w1 k1
    rw [HE.out.1, HE.out.2]
    exact ⟨rfl, g1, g2, g3, g4⟩
  have t2 : ((kd : Int) == 2) = false := eqb_false (by omega)
  by_cases h13 : kd = 1 ∨ kd = 3
  · have hK : ((kd : Int) == 1) = true ∨ ((kd : Int) == 1) = false ∧ ((kd : Int) == 3) = true := by
      rcases h13 with h | h
      · exact .inl (eqb_true (by omega))
      · exact .inr ⟨eqb_false (by omega), eqb_true (by omega)⟩
    have hpl := plain_len c
    have HPl := Lib.hid fun W => prPlain_s c W hc
    have hE : O2 = (if d = true then O ++ [32] else O) ++ plainL c ∧ d2 = false := by
      unfold putS at hO2 hd2
      rw [hkd, if_neg h2, if_pos h13] at hO2 hd2
      exact ⟨hO2.symm, hd2.symm⟩
    have hel2 := encL_len (plainL c)
    obtain ⟨p, hp⟩ : ∃ p, plainL c = p := ⟨_, rfl⟩
    rw [hp] at HPl hE hpl hel2
    clear hO2 hd2 hkd h2 h13 hp
    cases d with
    | true =>
      have HE : Hid (O2 = (O ++ [32]) ++ p ∧ d2 = false) := Lib.hid hE
      clear hE hd
      rcases hK with t3 | ⟨t3, t4⟩
      all_goals
        go_enter Tryz.func46, Tryz.ntmps46
        go_wp2_with fail
        refine HCl.out.mono ?_
        rintro e w1 ⟨rfl, k1⟩
        unfold two
        obtain ⟨g1, g2, g3, g4, g5⟩ := HNext.out w1 k1
        have c1 := g2.cell 0
        simp only [List.getElem?_toArray, List.getElem?_cons_zero] at c1
        have HWB := Lib.hid (writeByte_k B b (encL O) 32 w1 g1 (by omega) g5)
        go_wp2_with fail
        refine HWB.out.mono ?_
        rintro e w2 ⟨rfl, HI2, k2, o2⟩
        have HD2 := g2.kept o2 hbt hDb
        have f2 := HD2.free 0
        have hc2 := HD2.cell 0
        simp only [List.getElem?_toArray, List.getElem?_cons_zero] at hc2
        have g6 := g3.trans k2
        have g7 := g4.trans (Iters.of_kept g1 o2)
        have HI3 := HI2.put HD2 hbt hDb (.bool false)
        have HD3 : Box (w2.setCell ⟨D, 0, none⟩ (.bool false)) D 4 #[.bool false] := HD2.put 0 (.bool false)
        have k3 := g6.setCell (p := ⟨D, 0, none⟩) hBD (.bool false)
        have i3 := g7.trans (Iters.put HD2 (.bool false))
        have hs3 : B ≤ (w2.setCell ⟨D, 0, none⟩ (.bool false)).heap.size := by have := k2.size; simp; omega
        have hl3 : (encL O ++ [32]).length ≤ 100000000 := by rw [List.length_append]; simp; omega
        have HWS := Lib.hid (writeStr_k B b (encL O ++ [32]) (encL p) _ HI3 hl3 (by omega) hs3)
        go_wp2_with fail
        refine (HPl.out _).mono ?_
        rintro e w4 ⟨rfl, rfl⟩
        go_wp2_with fail
        refine HWS.out.mono ?_
        rintro e w5 ⟨⟨n5, rfl⟩, HI5, k5, o5⟩
        go_wp2
        go_end0
        rw [HE.out.1, HE.out.2, encL_app, encL_app, show encL [32] = [32] by decide]
        exact ⟨rfl, HI5, HD3.kept o5 hbt hDb, k3.trans k5, i3.trans (Iters.of_kept HI3 o5)⟩
    | false =>
      have HE : Hid (O2 = O ++ p ∧ d2 = false) := Lib.hid hE
      clear hE hd
      rcases hK with t3 | ⟨t3, t4⟩
      all_goals
        go_enter Tryz.func46, Tryz.ntmps46
        go_wp2_with fail
        refine HCl.out.mono ?_
        rintro e w1 ⟨rfl, k1⟩
        unfold two
        obtain ⟨g1, g2, g3, g4, g5⟩ := HNext.out w1 k1
        have c1 := g2.cell 0
        simp only [List.getElem?_toArray, List.getElem?_cons_zero] at c1
        have HWS := Lib.hid (writeStr_k B b (encL O) (encL p) w1 g1 (by omega) (by omega) g5)
        go_wp2_with fail
        refine (HPl.out _).mono ?_
        rintro e w4 ⟨rfl, rfl⟩
        go_wp2_with fail
        refine HWS.out.mono ?_
        rintro e w5 ⟨⟨n5, rfl⟩, HI5, k5, o5⟩
        go_wp2
        go_end0
        rw [HE.out.1, HE.out.2, encL_app]
        exact ⟨rfl, HI5, g2.kept o5 hbt hDb, g3.trans k5, g4.trans (Iters.of_kept g1 o5)⟩
  · have t3 : ((kd : Int) == 1) = false := eqb_false (by omega)
    have t4 : ((kd : Int) == 3) = false := eqb_false (by omega)
    have HE : Hid (O2 = O ∧ d2 = decide (0 < ((encL O).length : Int))) := Lib.hid (by
      unfold putS at hO2 hd2
      rw [hkd, if_neg h2, if_neg h13] at hO2 hd2
      refine ⟨hO2.symm, ?_⟩
      rw [← hd2]
      have hn : (encL O).length = 0 ↔ O = [] := by rw [List.length_eq_zero_iff]; exact encL_nil
      by_cases h0 : O = []
      · rw [decide_eq_false (by simpa using h0), decide_eq_false]; have := hn.2 h0; omega
      · rw [decide_eq_true h0, decide_eq_true]; have : (encL O).length ≠ 0 := fun e => h0 (hn.1 e); omega)
    obtain ⟨z, hz⟩ : ∃ z, decide (0 < ((encL O).length : Int)) = z := ⟨_, rfl⟩
    rw [hz] at HE
    clear hO2 hd2 hkd h2 h13 hd
    go_enter Tryz.func46, Tryz.ntmps46
    go_wp2_with fail
    refine HCl.out.mono ?_
    rintro e w1 ⟨rfl, k1⟩
    unfold two
    obtain ⟨g1, g2, g3, g4, g5⟩ := HNext.out w1 k1
    have c1 := g2.cell 0
    simp only [List.getElem?_toArray, List.getElem?_cons_zero] at c1
    have f1 := g2.free 0
    have HLn := Lib.hid (buildLen_k B b (encL O) w1 g1)
    obtain ⟨m, hm⟩ : ∃ m, (encL O).length = m := ⟨_, rfl⟩
    rw [hm] at hz HLn
    have hz2 : decide (0 < m) = z := by rw [← hz]; simp
    go_wp2_with fail
    refine HLn.out.mono ?_
    rintro e w2 ⟨rfl, rfl⟩
    go_wp2
    go_end0
    rw [HE.out.1, HE.out.2]
    exact ⟨rfl, g1.put g2 hbt hDb _, g2.put 0 _, g3.setCell (p := ⟨D, 0, none⟩) hBD _, g4.trans (Iters.put g2 _)⟩

end Go.Proofs.YtbnchnbblchmnaaGreatDoor

namespace Go.Proofs.YtbnchnbblchmnaaGreatDoor
open Go.RowKit

theorem put_ne (O : List Nat) (d : Bool) (c : Nat) (hd : d = true → O ≠ []) : (putS O d c).2 = true → (putS O d c).1 ≠ [] := by
  unfold putS
  split
  · exact hd
  split
  · intro h; cases h
  · intro h; simpa using h
theorem put_step (O : List Nat) (d : Bool) (c : Nat) (R : List Nat) (hd : d = true → O ≠ []) : sqz O d (tokL c ++ R) = sqz (putS O d c).1 (putS O d c).2 R := by
  unfold putS
  by_cases h2 : kN c = 2
  · have htok : tokL c = [] := by unfold tokL; rw [h2, if_pos (beq_true 2)]
    rw [if_pos h2, htok]
    rfl
  · rw [if_neg h2]
    by_cases h13 : kN c = 1 ∨ kN c = 3
    · have hld : isLD c = true := by
        unfold isLD
        rcases h13 with h | h
        · rw [h]; rfl
        · rw [h]; rfl
      have hw := plain_word (ld_nsp hld)
      have htok : tokL c = plainL c := by unfold tokL; rw [beq_false h2, if_neg (by decide), if_pos hld]
      rw [if_pos h13, htok]
      cases d with
      | true => exact sqz_t hw (hd rfl) R
      | false => exact sqz_f hw (.inr rfl) R
    · have hld : isLD c = false := by
        unfold isLD
        rw [beq_false (show kN c ≠ 1 from fun h => h13 (.inl h)), beq_false (show kN c ≠ 3 from fun h => h13 (.inr h))]
        rfl
      have htok : tokL c = [32] := by unfold tokL; rw [beq_false h2, if_neg (by decide), hld, if_neg (by decide)]
      rw [if_neg h13, htok, List.singleton_append, sqz_sp]
      by_cases h0 : O = []
      · rw [h0]
        unfold sqz
        rw [if_pos rfl, if_pos rfl]
      · rw [show decide (O ≠ []) = true from decide_eq_true h0]
def putF (l : List Nat) : List Nat × Bool := l.foldl (fun st c => putS st.1 st.2 c) ([], false)
theorem put_fold : ∀ (F : List Nat) (O : List Nat) (d : Bool), (d = true → O ≠ []) → (F.foldl (fun st c => putS st.1 st.2 c) (O, d)).1 = sqz O d (F.flatMap tokL)
  | [], O, d, _ => by rw [List.flatMap_nil, sqz_nil]; rfl
  | c :: F, O, d, hd => by
    rw [List.foldl_cons, List.flatMap_cons, put_step O d c _ hd]
    exact put_fold F _ _ (put_ne O d c hd)
theorem put_all (F : List Nat) : (putF F).1 = searchL F := by
  unfold putF
  rw [put_fold F [] false (fun h => by cases h)]
  unfold sqz searchL
  rw [if_pos rfl]
theorem put_snoc {l O : List Nat} {d : Bool} {c : Nat} (h : putF l = (O, d)) : putF (l ++ [c]) = ((putS O d c).1, (putS O d c).2) := by
  unfold putF at h ⊢
  rw [List.foldl_append, h]
  rfl

set_option maxRecDepth 20000 in
set_option maxHeartbeats 3200000 in
theorem prSearch_s (s : List UInt8) (w : World) (hS : Spans w) (hlen : s.length ≤ 5000) :
    Calls Tryz.prog 21 #[.string (str s)] w fun e w' => e = .returned (.string (str (nSearch s))) ∧ Below w.heap.size w w' := by
  have hbb : Below w.heap.size w ((w.alloc (.cells #[.pointer none, .slice none 0 0] 77)).alloc (.cells #[.bool false] 4)) := below_new (below_new (Below.refl _ _) _) _
  have HD := Lib.hid (prFold_s s _ (hS.below hbb) hlen)
  have hdl : (nFold s).length ≤ 60000 := by
    have h1 := nFL_len s
    have h2 := encL_len (nFL s)
    unfold nFold
    omega
  obtain ⟨R, hR⟩ : ∃ R, nSearch s = R := ⟨_, rfl⟩
  rw [hR]
  have HR : Hid (encL (searchL (nFL s)) = R) := Lib.hid hR
  have HT0 : decR (nFold s) = some (nFL s) := enc_some (dec_ok (nFL_dec s))
  obtain ⟨F, hF⟩ : ∃ F, nFL s = F := ⟨_, rfl⟩
  obtain ⟨t, ht⟩ : ∃ t, nFold s = t := ⟨_, rfl⟩
  rw [ht] at HD HT0 hdl
  rw [hF] at HR HT0
  have HT := Lib.hid HT0
  have hsz : (str t).size = t.length := rfl
  have HFr : Hid (Built w.heap.size w.heap.size [] ((w.alloc (.cells #[.pointer none, .slice none 0 0] 77)).alloc (.cells #[.bool false] 4))) := Lib.hid (Lib.IsBuilderF.alloc (Built.fresh w) _)
  have HBx : Hid (Box ((w.alloc (.cells #[.pointer none, .slice none 0 0] 77)).alloc (.cells #[.bool false] 4)) (w.heap.size + 1) 4 #[.bool false]) := Lib.hid (by
    have := Box.made (w.alloc (.cells #[.pointer none, .slice none 0 0] 77)) 4 #[.bool false]
    simpa using this)
  have HSp := Lib.hid hS
  clear hR hF ht HT0 hS
  go_enter Tryz.func21, Tryz.ntmps21
  go_wp2_with fail
  refine HD.out.mono ?_
  rintro e w2 ⟨rfl, k2⟩
  have HI2 := Lib.hid (HFr.out.below k2)
  have HB2 := Lib.hid (HBx.out.below k2 (by simp))
  have hb2 : Below w.heap.size w w2 := hbb.trans (k2.mono (by simp; omega))
  have hs2 : w.heap.size + 1 < w2.heap.size := by have := k2.size; simp at this; omega
  clear k2 HD HFr HBx hbb
  go_wp2
  go_loopw [] (fun wr => ∃ (pos : Nat) (l O : List Nat) (d : Bool), Built w.heap.size w.heap.size (encL O) wr ∧ Box wr (w.heap.size + 1) 4 #[.bool d] ∧ wr.heap[w2.heap.size]? = some (.stringIter (str t) pos) ∧ Hid (Past t pos l) ∧ Hid (putF l = (O, d)) ∧ Hid (d = true → O ≠ []) ∧ O.length ≤ 3 * l.length ∧ Below w.heap.size w wr) (fun wr => t.length - wr.iterPos w2.heap.size)
  case atStart =>
    refine ⟨0, [], [], false, Lib.IsBuilderF.alloc HI2.out _, HB2.out.alloc _, World.iter_heap w2 (str t) 0, Lib.hid (Past.start t), Lib.hid rfl, Lib.hid (fun h => by cases h), by simp, hb2.alloc hb2.size _⟩
  case round =>
    obtain ⟨pos, l, O, d, HI, HB, hit, HP, HO, Hd, hOl, hb⟩ := hrel
    have hks : w2.heap.size < wr.heap.size := (Array.getElem?_eq_some_iff.1 hit).1
    by_cases hp : pos < t.length
    · obtain ⟨c, n, hcn⟩ : ∃ c n, Utf8.decode (str t) pos = (c, n) := ⟨_, _, rfl⟩
      have hnx : ∀ ty, (Instr.next (.pointer (some ⟨w2.heap.size, 0, none⟩)) true ty).run Tryz.prog wr = _ := fun ty => Lib.run_next_any_at wr w2.heap.size (str t) pos ty hit hp
      have hit2 := Lib.iterAt_heap wr w2.heap.size (str t) pos (pos + (Utf8.decode (str t) pos).2) hit
      have hI2 := HI.iterAt hit (pos + (Utf8.decode (str t) pos).2)
      have hB2 : Box (wr.iterAt w2.heap.size (str t) (pos + (Utf8.decode (str t) pos).2)) (w.heap.size + 1) 4 #[.bool d] := (Lib.iterAt_other wr w2.heap.size (w.heap.size + 1) (str t) _ (by omega)).trans HB
      have hbw2 := Lib.below_iterAt hb (k := w2.heap.size) (by omega) (str t) (pos + (Utf8.decode (str t) pos).2)
      have hcm := decode_le (str t) pos
      simp only [hcn] at hnx hit2 hbw2 hcm hI2 hB2
      have hcz : (c : Int) ≤ 2147483647 := by omega
      have hcz0 : (0 : Int) ≤ (c : Int) := by omega
      have hc : hasR (c : Int) = true := by
        cases hc : hasR (c : Int) with
        | true => rfl
        | false => have h := HP.out.rune_bad hp hcn hc; rw [HT.out] at h; cases h
      obtain ⟨h1, h0⟩ := HP.out.rune hp hcn hc
      have HN := Lib.hid h1
      have hle := h1.1
      have hll := HP.out.2.1
      have hsb : w.heap.size ≤ (wr.iterAt w2.heap.size (str t) (pos + n)).heap.size := by rw [Lib.iterAt_size]; omega
      obtain ⟨W, hW⟩ : ∃ W, wr.iterAt w2.heap.size (str t) (pos + n) = W := ⟨_, rfl⟩
      rw [hW] at hnx hit2 hbw2 hI2 hsb hB2
      have HC := Lib.hid (prPut_any w.heap.size w.heap.size (w.heap.size + 1) O d c W (HSp.out.below hbw2) hc hI2 hB2 (by omega) (by omega) hsb (by omega) Hd.out)
      have HO2 := Lib.hid (put_snoc (c := c) HO.out)
      have Hd2 := Lib.hid (put_ne O d c Hd.out)
      have hpl := put_len O d c
      obtain ⟨O2, hO2⟩ : ∃ x, (putS O d c).1 = x := ⟨_, rfl⟩
      obtain ⟨d2, hd2⟩ : ∃ x, (putS O d c).2 = x := ⟨_, rfl⟩
      rw [hO2] at HC HO2 Hd2 hpl
      rw [hd2] at HC HO2 Hd2
      clear hcn h1 hc hW hO2 hd2
      go_wp2_with fail
      refine HC.out.mono ?_
      rintro e w4 ⟨rfl, HI4, HB4, k4, i4⟩
      have hit4 := i4 _ _ _ hit2
      go_wp2
      go_roundw
      case rel => exact ⟨pos + n, l ++ [c], O2, d2, HI4, HB4, hit4, HN, HO2, Hd2, by rw [List.length_append]; simp; omega, hbw2.trans k4⟩
      case measure =>
        rw [iterPos_of hit4, iterPos_of hit]
        omega
    · have HE : Hid (R = encL O) := Lib.hid (by
        have h := HP.out.done hp
        rw [HT.out] at h
        rw [← HR.out, Option.some.inj h, ← put_all, HO.out])
      have hnx : ∀ ty, (Instr.next (.pointer (some ⟨w2.heap.size, 0, none⟩)) true ty).run Tryz.prog wr = _ := fun ty => Lib.run_next_end_at wr w2.heap.size (str t) pos ty hit hp
      have HC := Lib.hid (buildStr_k w.heap.size w.heap.size (encL O) wr HI (by omega))
      go_wp2_with fail
      refine HC.out.mono ?_
      rintro e w4 ⟨rfl, k4⟩
      go_wp2
      go_ret
      rw [HE.out]
      exact ⟨rfl, hb.trans k4⟩

end Go.Proofs.YtbnchnbblchmnaaGreatDoor
