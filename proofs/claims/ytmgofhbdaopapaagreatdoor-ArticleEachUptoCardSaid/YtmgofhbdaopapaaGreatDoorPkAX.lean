/-
  The program's decomposed, encode, Decompose, Marks.
  The program's own Fold.
  The program's own Search: its closure, and the loop.
  The program's own Search, Is, Alike.
  The program's own Is, Alike, Join.
-/
import Derived.Test.YtmgofhbdaopapaaGreatDoorPkAW
import Derived.Test.YtmgofhbdaopapaaGreatDoorPkAQ
namespace Go.Proofs.YtmgofhbdaopapaaGreatDoor
open Go.RowKit

set_option maxRecDepth 100000 in
set_option maxHeartbeats 3200000 in
theorem sortMarks_none (A : Option Addr) (c : Nat) (w : World) :
    Calls Tryz.prog 142 #[.slice A 0 c] w fun e w' => e = .returned (.tuple #[]) ∧ w' = w := by
  have HSS := Lib.hid (fun W => sortStable_none A c W)
  go_enter Tryz.func142, Tryz.ntmps142
  go_wp2
  go_loopw [3, 4, 5, 8] (fun s3 _ _ s8 wr => s3 = .int .i64 0 ∧ s8 = .int .i64 0 ∧ wr = w) (fun _ _ _ _ _ => 0)
  case atStart => exact ⟨rfl, rfl, rfl⟩
  case round =>
    obtain ⟨rfl, rfl, rfl⟩ := hrel
    go_wp2_with fail
    refine (HSS.out _).mono ?_
    rintro e w3 ⟨rfl, rfl⟩
    go_wp2
    go_end0
    exact ⟨rfl, rfl⟩

/-- sortMarks over a row of the call's own. -/
theorem sortMarks_own (base : Nat) (v : Value) (D : List Nat) (w : World) (hS : Spans w) (hb0 : 4 < base) (hbw : base ≤ w.heap.size) (hD : D.length ≤ 1000000) (hown : w.ownsRow base 3 1 v D.length (D.map nv)) :
    Calls Tryz.prog 142 #[v] w fun e w' => e = .returned (.tuple #[]) ∧ w'.ownsRow base 3 1 v (sortB clM [] D).reverse.length ((sortB clM [] D).reverse.map nv) ∧ Below base w w' := by
  by_cases h0 : D.length = 0
  · have hA := Arr.of_own hown
    obtain ⟨A, c, rfl⟩ := hA.form
    have hnil := List.length_eq_zero_iff.1 h0
    subst hnil
    refine (sortMarks_none A c w).mono ?_
    rintro e w' ⟨rfl, rfl⟩
    exact ⟨rfl, hown, Below.refl _ _⟩
  · obtain ⟨g, cap, cur, rfl, k1, k2, k3, k4, k5, k6⟩ := own_open hown (by omega)
    refine (sortMarks_row g D.length cap D w hS (by omega) rfl k3 hD ⟨cur, k2, k5, k6⟩).mono ?_
    rintro e w' ⟨rfl, ⟨cu, h1, h2, h3⟩, hg⟩
    have hl : (sortB clM [] D).reverse.length = D.length := by rw [List.length_reverse, sort_len]; simp
    rw [hl] at h3
    exact ⟨rfl, own_M hl k1 h1 k3 k4 h2 h3, below_grown (Below.refl _ _) hg hbw fun g' hg' => (by cases hg'; exact k1)⟩

set_option maxRecDepth 100000 in
set_option maxHeartbeats 6400000 in
theorem prDecom_any (s : List UInt8) (w : World) (hS : Spans w) (hlen : s.length ≤ 10000) :
    Calls Tryz.prog 129 #[.string (str s)] w fun e w' => ∃ v, e = .returned (.tuple #[v, .bool (decR s).isSome]) ∧ w'.ownsRow w.heap.size 3 1 v (dcF (nL s)).length ((dcF (nL s)).map nv) ∧ Below w.heap.size w w' := by
  have HD := Lib.hid (prDecode_any s w hS hlen)
  have HS := Lib.hid hS
  obtain ⟨F, hF⟩ : ∃ F, dcF (nL s) = F := ⟨_, rfl⟩
  rw [hF]
  have HF := Lib.hid hF
  obtain ⟨R, hR⟩ : ∃ R, (decR s).isSome = R := ⟨_, rfl⟩
  rw [hR]
  have HR := Lib.hid hR
  clear hF hR hS
  go_enter Tryz.func129, Tryz.ntmps129
  go_wp2_with fail
  refine HD.out.mono ?_
  rintro e w1 ⟨hd, hb1⟩
  obtain ⟨A, n, cp, b, rfl, hcase⟩ := hd.form
  rcases hcase with ⟨rfl, l, h1, h2, hA, _⟩ | ⟨rfl, h1, rfl, rfl, rfl⟩
  · have HL : Hid (nL s = l) := Lib.hid (by unfold nL; rw [h1]; rfl)
    have HRt : Hid (R = true) := Lib.hid (by rw [← HR.out, h1]; rfl)
    have HLn : Hid (l.length = n) := Lib.hid h2.symm
    have HOK : Hid (∀ c ∈ l, okC c) := Lib.hid (enc_dec h1).2
    have hn : n ≤ 10000 := by have := dec_len h1; omega
    have hmk : ∀ W, (Instr.makeSlice 35 (.int .i64 0) (.int .i64 (n : Int))).run Tryz.prog W = .ok (.slice (some ⟨W.heap.size, 0, none⟩) 0 n) (W.alloc (.cells (madeOf (.int .i64 0) n) 3)) := fun W => make_ints 0 n (Nat.zero_le _) (by omega) W
    have hw1 : 4 < w1.heap.size := (HS.out.below hb1).lt
    have HS1 := Lib.hid (HS.out.below hb1)
    clear hd h1 h2
    go_wp2
    go_loopw [6, 8, 21] (fun v _ i wr => ∃ (k : Nat) (O : List Nat), k ≤ n ∧ i = .int .i64 (k : Int) ∧ O.length ≤ 2 * k ∧ Hid (O = (l.take k).flatMap wholeR) ∧ wr.ownsRow w1.heap.size 3 1 v O.length (O.map nv) ∧ Below w1.heap.size w1 wr) (fun _ _ i _ => n - (intOf i).toNat)
    case atStart =>
      refine ⟨0, [], by omega, rfl, by simp, Lib.hid rfl, ?_, below_new (Below.refl _ _) _⟩
      have h := own_box (base := w1.heap.size) (n := 0) (Box.made w1 3 (madeOf (.int .i64 0) n)) (madeOf_size _ _) (Nat.zero_le n) (by unfold maxLen; omega) (Nat.le_refl _)
      exact h
    case round =>
      obtain ⟨k, O, hk, rfl, hOl, HO, hown, hb⟩ := hrel
      have hbs := hb.size
      by_cases hlt : k < n
      · have t1 : decide ((k : Int) < (n : Int)) = true := by simp; omega
        obtain ⟨b0, o0, rfl, hB0, hc0⟩ := hA.some_ (by omega)
        obtain ⟨x, hx⟩ := get_some (l := l) (i := k) (by have := HLn.out; omega)
        have d0 := (hb.cell (p := ⟨b0, o0 + k, none⟩) hB0).trans (hc0 k x hx)
        simp only [nv] at d0
        have kz : (k : Int) < (n : Int) := by omega
        have HP := Lib.hid (prParts_any w1.heap.size _ O x wr (HOK.out x (List.mem_of_getElem? hx)) hbs (by omega) hown)
        have HX : Hid (O ++ wholeR x = (l.take (k + 1)).flatMap wholeR) := Lib.hid (by rw [take_next hx, List.flatMap_append, HO.out]; simp)
        have hX2 : (O ++ wholeR x).length ≤ 2 * (k + 1) := by rw [List.length_append]; have := whole_len x; omega
        obtain ⟨O2, hO2⟩ : ∃ O2, O ++ wholeR x = O2 := ⟨_, rfl⟩
        rw [hO2] at HP HX hX2
        clear hc0 hx hO2 hown
        go_wp2_with fail
        refine HP.out.mono ?_
        rintro e w2 ⟨v2, rfl, hown2, hb2⟩
        go_wp2
        go_roundw
        case rel => exact ⟨k + 1, O2, by omega, by go_num, hX2, HX, hown2, hb.trans hb2⟩
        case measure => simp [intOf]; omega
      · obtain rfl : k = n := by omega
        have HO2 : Hid (F = (sortB clM [] O).reverse) := Lib.hid (by
          rw [← HF.out, HL.out, HO.out, List.take_of_length_le (by rw [HLn.out]; exact Nat.le_refl _)]
          rfl)
        have HSM := Lib.hid (sortMarks_own w1.heap.size _ O wr (HS1.out.below hb) hw1 hbs (by omega) hown)
        rw [← HO2.out] at HSM
        clear hown
        go_wp2_with fail
        refine HSM.out.mono ?_
        rintro e w2 ⟨rfl, hown2, hb2⟩
        go_wp2
        go_ret2
        rw [HRt.out]
        exact ⟨_, rfl, own_less hb1.size hown2, below_next hb1 (hb.trans hb2)⟩
  · have HE : Hid (F = [] ∧ R = false) := Lib.hid ⟨by rw [← HF.out]; unfold nL; rw [h1]; rfl, by rw [← HR.out, h1]; rfl⟩
    clear hd h1
    go_wp2
    go_ret2
    rw [HE.out.1, HE.out.2]
    exact ⟨_, rfl, World.ownsRow_nil _ _ _ _, hb1⟩

theorem prEnc_own (base : Nat) (v : Value) (l : List Nat) (w : World) (hS : Spans w) (hown : w.ownsRow base 3 1 v l.length (l.map nv)) (hok : ∀ c ∈ l, okC c) (hl : l.length ≤ 10000) :
    Calls Tryz.prog 143 #[v] w fun e w' => e = .returned (.tuple #[.string (str (encL l)), .bool true]) ∧ Below w.heap.size w w' := by
  have hA := Arr.of_own hown
  obtain ⟨A, c, rfl⟩ := hA.form
  refine (prEncode_any A _ c _ w hS hA.int hl).mono ?_
  rintro e w' ⟨h1, h2⟩
  rw [encR_nats hok] at h1
  exact ⟨h1, h2⟩

set_option maxRecDepth 20000 in
set_option maxHeartbeats 1600000 in
theorem prEncS_any (base : Nat) (v : Value) (l : List Nat) (w : World) (hS : Spans w) (hown : w.ownsRow base 3 1 v l.length (l.map nv)) (hok : ∀ c ∈ l, okC c) (hl : l.length ≤ 10000) :
    Calls Tryz.prog 130 #[v] w fun e w' => e = .returned (.string (str (encL l))) ∧ Below w.heap.size w w' := by
  have HE := Lib.hid (prEnc_own base v l w hS hown hok hl)
  clear hown
  go_enter Tryz.func130, Tryz.ntmps130
  go_wp2_with fail
  refine HE.out.mono ?_
  rintro e w1 ⟨rfl, k1⟩
  go_wp2
  go_ret
  exact ⟨rfl, k1⟩

theorem dcL_len (s : List UInt8) (h : s.length ≤ 5000) : (dcF (nL s)).length ≤ 10000 := by
  have h1 := dcF_len (nL s)
  have h2 := nL_len s
  omega

set_option maxRecDepth 20000 in
set_option maxHeartbeats 1600000 in
theorem prDecompose_s (s : List UInt8) (w : World) (hS : Spans w) (hlen : s.length ≤ 5000) :
    Calls Tryz.prog 104 #[.string (str s)] w fun e w' => e = .returned (.string (str (nD s))) ∧ Below w.heap.size w w' := by
  have HD := Lib.hid (prDecom_any s w hS (by omega))
  have HS := Lib.hid hS
  have HL := Lib.hid (dcL_len s hlen)
  obtain ⟨R, hR⟩ : ∃ R, nD s = R := ⟨_, rfl⟩
  rw [hR]
  have HR : Hid (encL (dcF (nL s)) = R) := Lib.hid hR
  have HOK := Lib.hid (dcF_ok s)
  obtain ⟨l, hl⟩ : ∃ l, dcF (nL s) = l := ⟨_, rfl⟩
  rw [hl] at HD HR HOK HL
  clear hR hl hS
  go_enter Tryz.func104, Tryz.ntmps104
  go_wp2_with fail
  refine HD.out.mono ?_
  rintro e w1 ⟨v, rfl, hown, hb1⟩
  have HE := Lib.hid (prEncS_any _ v l w1 (HS.out.below hb1) hown HOK.out HL.out)
  clear hown
  go_wp2_with fail
  refine HE.out.mono ?_
  rintro e w2 ⟨rfl, hb2⟩
  go_wp2
  go_ret
  rw [HR.out]
  exact ⟨rfl, below_next hb1 hb2⟩

end Go.Proofs.YtmgofhbdaopapaaGreatDoor

namespace Go.Proofs.YtmgofhbdaopapaaGreatDoor
open Go.RowKit

theorem iterPos_of {w : World} {k : Nat} {s : ByteArray} {p : Nat} (h : w.heap[k]? = some (.stringIter s p)) : w.iterPos k = p := by simp [World.iterPos, h]
theorem foldL_snoc (l : List Nat) (c : Nat) : foldL (l ++ [c]) = foldL l ++ low1 c := by unfold foldL; rw [List.flatMap_append]; simp
theorem encL_foldL (l : List Nat) (c : Nat) : encL (foldL (l ++ [c])) = encL (foldL l) ++ encL (low1 c) := by rw [foldL_snoc, encL_app]
theorem foldL_len : ∀ l : List Nat, (foldL l).length ≤ 2 * l.length
  | [] => by simp [foldL]
  | c :: l => by
    have h1 := foldL_len l
    have h2 := low1_len c
    have e : foldL (c :: l) = low1 c ++ foldL l := List.flatMap_cons
    rw [e, List.length_append, List.length_cons]
    omega
theorem hasR_low {c : Nat} (h : hasR (c : Int) = true) : hasR (lowN c : Int) = true := by
  rw [hasN_eq] at h ⊢
  exact low_has h

set_option maxRecDepth 20000 in
set_option maxHeartbeats 3200000 in
theorem prFold_s (s : List UInt8) (w : World) (hS : Spans w) (hlen : s.length ≤ 5000) :
    Calls Tryz.prog 82 #[.string (str s)] w fun e w' => e = .returned (.string (str (nFold s))) ∧ Below w.heap.size w w' := by
  have hS1 : Spans (w.alloc (.cells #[.pointer none, .slice none 0 0] 57)) := hS.below (below_new (Below.refl _ _) _)
  have HD := Lib.hid (prDecompose_s s _ hS1 hlen)
  have hdl := nD_len s
  obtain ⟨R, hR⟩ : ∃ R, nFold s = R := ⟨_, rfl⟩
  rw [hR]
  have HR : Hid (encL (foldL (dcF (nL s))) = R) := Lib.hid hR
  have HT0 : decR (nD s) = some (dcF (nL s)) := enc_some (dcF_ok s)
  obtain ⟨d, hd⟩ : ∃ d, dcF (nL s) = d := ⟨_, rfl⟩
  obtain ⟨t, ht⟩ : ∃ t, nD s = t := ⟨_, rfl⟩
  rw [ht] at HD HT0 hdl
  rw [hd] at HR HT0
  have HT := Lib.hid HT0
  have hsz : (str t).size = t.length := rfl
  have HFr := Lib.hid (Built.fresh w)
  clear hR hd ht HT0 hS1 hS
  go_enter Tryz.func82, Tryz.ntmps82
  go_wp2_with fail
  refine HD.out.mono ?_
  rintro e w2 ⟨rfl, k2⟩
  have HI2 := Lib.hid (HFr.out.below k2)
  have hb2 : Below w.heap.size w w2 := (below_new (Below.refl _ _) _).trans (k2.mono (by simp))
  have hs2 : w.heap.size < w2.heap.size := by have := k2.size; simp at this; omega
  clear k2 HD HFr
  go_wp2
  go_loopw [] (fun wr => ∃ (pos : Nat) (l : List Nat), Built w.heap.size w.heap.size (encL (foldL l)) wr ∧ wr.heap[w2.heap.size]? = some (.stringIter (str t) pos) ∧ Hid (Past t pos l) ∧ Below w.heap.size w wr) (fun wr => t.length - wr.iterPos w2.heap.size)
  case atStart =>
    exact ⟨0, [], Lib.IsBuilderF.alloc HI2.out _, World.iter_heap w2 (str t) 0, Lib.hid (Past.start t), hb2.alloc hb2.size _⟩
  case round =>
    obtain ⟨pos, l, HI, hit, HP, hb⟩ := hrel
    have hks : w2.heap.size < wr.heap.size := (Array.getElem?_eq_some_iff.1 hit).1
    by_cases hp : pos < t.length
    · obtain ⟨c, n, hcn⟩ : ∃ c n, Utf8.decode (str t) pos = (c, n) := ⟨_, _, rfl⟩
      have hnx : ∀ ty, (Instr.next (.pointer (some ⟨w2.heap.size, 0, none⟩)) true ty).run Tryz.prog wr = _ := fun ty => Lib.run_next_any_at wr w2.heap.size (str t) pos ty hit hp
      have hit2 := Lib.iterAt_heap wr w2.heap.size (str t) pos (pos + (Utf8.decode (str t) pos).2) hit
      have hI2 := HI.iterAt hit (pos + (Utf8.decode (str t) pos).2)
      have hbw2 := Lib.below_iterAt hb (k := w2.heap.size) (by omega) (str t) (pos + (Utf8.decode (str t) pos).2)
      have hcm := decode_le (str t) pos
      simp only [hcn] at hnx hit2 hbw2 hcm hI2
      have hcz : (c : Int) ≤ 2147483647 := by omega
      have hcz0 : (0 : Int) ≤ (c : Int) := by omega
      have hc : hasR (c : Int) = true := by
        cases hc : hasR (c : Int) with
        | true => rfl
        | false => have h := HP.out.rune_bad hp hcn hc; rw [HT.out] at h; cases h
      obtain ⟨h1, h0⟩ := HP.out.rune hp hcn hc
      have HN := Lib.hid h1
      have hle := h1.1
      have hll := HP.out.2.1
      have hfl := foldL_len l
      have hel := encL_len (foldL l)
      have hsb : w.heap.size ≤ (wr.iterAt w2.heap.size (str t) (pos + n)).heap.size := by rw [Lib.iterAt_size]; omega
      have hEL := encL_foldL l c
      obtain ⟨W, hW⟩ : ∃ W, wr.iterAt w2.heap.size (str t) (pos + n) = W := ⟨_, rfl⟩
      rw [hW] at hnx hit2 hbw2 hI2 hsb
      by_cases hss : c = 223
      · have t1 : ((c : Int) == 223) = true := eqb_true (by omega)
        rw [hss, show encL (low1 223) = [115, 115] by decide +kernel, ← hss] at hEL
        have HC := Lib.hid (writeStr_k w.heap.size w.heap.size (encL (foldL l)) [115, 115] W hI2 (by omega) (by decide) hsb)
        rw [← hEL] at HC
        clear hcn h1 hc hW hss hEL
        go_wp2_with fail
        refine HC.out.mono ?_
        rintro e w4 ⟨⟨n4, rfl⟩, HI4, k4, o4⟩
        have hit4 := (Iters.of_kept hI2 o4) _ _ _ hit2
        go_wp2
        go_roundw
        case rel => exact ⟨pos + n, l ++ [c], HI4, hit4, HN, hbw2.trans k4⟩
        case measure =>
          rw [iterPos_of hit4, iterPos_of hit]
          omega
      · have t1 : ((c : Int) == 223) = false := eqb_false (by omega)
        have hlow : low1 c = [lowN c] := by
          rcases low1_head c with h | ⟨h, _⟩
          · exact h
          · exact absurd h hss
        have hcl := hasR_low hc
        rw [hlow, show encL [lowN c] = encC (lowN c) by simp [encL]] at hEL
        have HC := Lib.hid (writeRune_k w.heap.size w.heap.size (encL (foldL l)) (lowN c) W hcl hI2 (by omega) hsb)
        rw [← hEL] at HC
        have HL := Lib.hid (prLower_s (c : Int) W)
        rw [lowI_nat] at HL
        have hlz := (has_range hcl).2
        have hlz0 := (has_range hcl).1
        obtain ⟨y, hy⟩ : ∃ y, lowN c = y := ⟨_, rfl⟩
        rw [hy] at HC HL hlz hlz0
        have hlz2 : (y : Int) ≤ 65535 := by omega
        clear hcn h1 hc hW hss hEL hlow hcl hy hlz
        go_wp2_with fail
        refine HL.out.mono ?_
        rintro e w3 ⟨rfl, rfl⟩
        go_wp2_with fail
        refine HC.out.mono ?_
        rintro e w4 ⟨⟨n4, rfl⟩, HI4, k4, o4⟩
        have hit4 := (Iters.of_kept hI2 o4) _ _ _ hit2
        go_wp2
        go_roundw
        case rel => exact ⟨pos + n, l ++ [c], HI4, hit4, HN, hbw2.trans k4⟩
        case measure =>
          rw [iterPos_of hit4, iterPos_of hit]
          omega
    · have HE : Hid (R = encL (foldL l)) := Lib.hid (by
        have h := HP.out.done hp
        rw [HT.out] at h
        rw [← HR.out, Option.some.inj h])
      have hnx : ∀ ty, (Instr.next (.pointer (some ⟨w2.heap.size, 0, none⟩)) true ty).run Tryz.prog wr = _ := fun ty => Lib.run_next_end_at wr w2.heap.size (str t) pos ty hit hp
      have HC := Lib.hid (buildStr_k w.heap.size w.heap.size (encL (foldL l)) wr HI (by omega))
      go_wp2_with fail
      refine HC.out.mono ?_
      rintro e w4 ⟨rfl, k4⟩
      go_wp2
      go_ret
      rw [HE.out]
      exact ⟨rfl, hb.trans k4⟩

end Go.Proofs.YtmgofhbdaopapaaGreatDoor

namespace Go.Proofs.YtmgofhbdaopapaaGreatDoor
open Go.RowKit

/-- One folded character more: what is written so far, and whether a space is due. -/
def putS (O : List Nat) (d : Bool) (c : Nat) : List Nat × Bool :=
  if kN c = 2 then (O, d) else if kN c = 1 ∨ kN c = 3 then ((if d = true then O ++ [32] else O) ++ plainL c, false) else (O, decide (O ≠ []))
theorem put_len (O : List Nat) (d : Bool) (c : Nat) : (putS O d c).1.length ≤ O.length + 3 := by
  have h := plain_len c
  unfold putS
  split
  · simp
  split
  · rw [List.length_append]
    split
    · rw [List.length_append]; simp; omega
    · omega
  · simp
theorem hasR_of_good {e : Nat} (h : GoodE e) : hasR (e : Int) = true := by rw [hasN_eq]; exact h.has
theorem encC_32 : encC 32 = [32] := by decide

end Go.Proofs.YtmgofhbdaopapaaGreatDoor

namespace Go.Proofs.YtmgofhbdaopapaaGreatDoor
open Go.RowKit

theorem put_ne (O : List Nat) (d : Bool) (c : Nat) (hd : d = true → O ≠ []) : (putS O d c).2 = true → (putS O d c).1 ≠ [] := by
  unfold putS
  split
  · exact hd
  split
  · intro h; cases h
  · intro h; simpa using h
theorem put_step (O : List Nat) (d : Bool) (c : Nat) (R : List Nat) (hd : d = true → O ≠ []) : sqz O d (tokL c ++ R) = sqz (putS O d c).1 (putS O d c).2 R := by
  unfold putS
  by_cases h2 : kN c = 2
  · have htok : tokL c = [] := by unfold tokL; rw [h2, if_pos (beq_true 2)]
    rw [if_pos h2, htok]
    rfl
  · rw [if_neg h2]
    by_cases h13 : kN c = 1 ∨ kN c = 3
    · have hld : isLD c = true := by
        unfold isLD
        rcases h13 with h | h
        · rw [h]; rfl
        · rw [h]; rfl
      have hw := plain_word (ld_nsp hld)
      have htok : tokL c = plainL c := by unfold tokL; rw [beq_false h2, if_neg (by decide), if_pos hld]
      rw [if_pos h13, htok]
      cases d with
      | true => exact sqz_t hw (hd rfl) R
      | false => exact sqz_f hw (.inr rfl) R
    · have hld : isLD c = false := by
        unfold isLD
        rw [beq_false (show kN c ≠ 1 from fun h => h13 (.inl h)), beq_false (show kN c ≠ 3 from fun h => h13 (.inr h))]
        rfl
      have htok : tokL c = [32] := by unfold tokL; rw [beq_false h2, if_neg (by decide), hld, if_neg (by decide)]
      rw [if_neg h13, htok, List.singleton_append, sqz_sp]
      by_cases h0 : O = []
      · rw [h0]
        unfold sqz
        rw [if_pos rfl, if_pos rfl]
      · rw [show decide (O ≠ []) = true from decide_eq_true h0]
def putF (l : List Nat) : List Nat × Bool := l.foldl (fun st c => putS st.1 st.2 c) ([], false)
theorem put_fold : ∀ (F : List Nat) (O : List Nat) (d : Bool), (d = true → O ≠ []) → (F.foldl (fun st c => putS st.1 st.2 c) (O, d)).1 = sqz O d (F.flatMap tokL)
  | [], O, d, _ => by rw [List.flatMap_nil, sqz_nil]; rfl
  | c :: F, O, d, hd => by
    rw [List.foldl_cons, List.flatMap_cons, put_step O d c _ hd]
    exact put_fold F _ _ (put_ne O d c hd)
theorem put_all (F : List Nat) : (putF F).1 = searchL F := by
  unfold putF
  rw [put_fold F [] false (fun h => by cases h)]
  unfold sqz searchL
  rw [if_pos rfl]
theorem put_snoc {l O : List Nat} {d : Bool} {c : Nat} (h : putF l = (O, d)) : putF (l ++ [c]) = ((putS O d c).1, (putS O d c).2) := by
  unfold putF at h ⊢
  rw [List.foldl_append, h]
  rfl

end Go.Proofs.YtmgofhbdaopapaaGreatDoor

namespace Go.Proofs.YtmgofhbdaopapaaGreatDoor
open Go.RowKit

/-! Join. -/
def nForms (xs : List (List UInt8)) : List (List UInt8) := (xs.map nSearch).filter fun y => decide (y ≠ [])
theorem forms_cons (s : List UInt8) (xs : List (List UInt8)) : nForms (s :: xs) = if nSearch s = [] then nForms xs else nSearch s :: nForms xs := by
  unfold nForms
  rw [List.map_cons]
  by_cases h : nSearch s = []
  · rw [if_pos h, List.filter_cons_of_neg (by simpa using h)]
  · rw [if_neg h, List.filter_cons_of_pos (by simpa using h)]
theorem forms_snoc (xs : List (List UInt8)) (s : List UInt8) : nForms (xs ++ [s]) = nForms xs ++ if nSearch s = [] then [] else [nSearch s] := by
  have e : nForms (xs ++ [s]) = nForms xs ++ nForms [s] := by unfold nForms; rw [List.map_append, List.filter_append]
  rw [e, forms_cons]
  rfl
theorem join_from : ∀ (xs : List (List UInt8)) (O : List UInt8), O ≠ [] → xs.foldl (fun out s => joinStep out (nSearch s)) O = O ++ Lib.joinTail [32] (nForms xs)
  | [], O, _ => by simp [nForms, Lib.joinTail]
  | s :: xs, O, h => by
    rw [List.foldl_cons, forms_cons]
    by_cases h0 : nSearch s = []
    · rw [if_pos h0, h0, step_nil]
      exact join_from xs O h
    · rw [if_neg h0, step_both h h0, join_from xs _ (by simp)]
      simp [Lib.joinTail]
theorem join_forms : ∀ xs : List (List UInt8), nJoin xs = Lib.join (nForms xs) [32]
  | [] => rfl
  | s :: xs => by
    have e : nJoin (s :: xs) = xs.foldl (fun out s => joinStep out (nSearch s)) (joinStep [] (nSearch s)) := rfl
    rw [e, step_out, forms_cons]
    by_cases h0 : nSearch s = []
    · rw [if_pos h0, h0]
      exact join_forms xs
    · rw [if_neg h0, join_from xs _ h0, Lib.join_cons]
theorem step_len (O x : List UInt8) : (joinStep O x).length ≤ O.length + x.length + 1 := by
  unfold joinStep
  split
  · rw [List.length_append, List.length_cons]; omega
  · rw [List.length_append]; omega
theorem join_len6 : ∀ (xs : List (List UInt8)) (O : List UInt8), (∀ x ∈ xs, x.length ≤ 1000) → (xs.foldl (fun out s => joinStep out (nSearch s)) O).length ≤ O.length + xs.length * 48001
  | [], O, _ => by simp
  | s :: xs, O, h => by
    rw [List.foldl_cons, List.length_cons]
    have h1 := join_len6 xs (joinStep O (nSearch s)) fun x hx => h x (by simp [hx])
    have h2 := step_len O (nSearch s)
    have h3 := nSearch_len s
    have h4 := h s (by simp)
    omega
theorem forms_len (xs : List (List UInt8)) : (nForms xs).length ≤ xs.length := by
  unfold nForms
  have := List.length_filter_le (fun y => decide (y ≠ [])) (xs.map nSearch)
  rw [List.length_map] at this
  exact this
theorem info_string : (Tryz.prog.info? 9).map (fun i => (i.zero, i.size, i.bytes)) = some (some (.string ⟨#[]⟩), 1, 16) := by kernel_rfl
/-- append of one string. -/
theorem append_text {ops : Array Oper} {rest : List Oper} {o : Oper} {a : Act} {Q : Exit → Act → World → Prop} (w : World) (hgd : o.guard = none) (s x : Operand)
    (ho : o.op = .call { callee := .builtin .append, args := #[s, x], argTypes := #[27, 27] })
    (base : Nat) (v : Value) (xs : List (List UInt8)) (hs : a.eval s = v) (hown : w.ownsRow base 9 1 v xs.length (xs.map sv)) (y : List UInt8) (u : Value) (hu : u = sv y)
    (hx : a.eval x = .slice (some ⟨w.heap.size, 0, none⟩) 1 1) (hlen : xs.length ≤ 1000000000000 - 1) (hbase : base ≤ w.heap.size)
    (h : ∀ v' w', w'.ownsRow base 9 1 v' (xs ++ [y]).length ((xs ++ [y]).map sv) → Below base w w' → wpList Tryz.prog ops Q rest (a.put o.dst v') w') : wpList Tryz.prog ops Q (o :: rest) a (w.alloc (.cells #[u] 9)) :=
  append_one 27 9 (.string ⟨#[]⟩) 16 Tryz.underlying27 info_string rfl (by decide) one_sv w hgd s x ho base v xs hs hown y u hu hx hlen hbase h

end Go.Proofs.YtmgofhbdaopapaaGreatDoor
