/-
  The program's divideAtSpace, divide.
  The program's Skip, Strip, Invert, Sort.
  What the laws of article build on: the examples of the document.
  The body of ArticleSkip.
-/
import Derived.Test.YtmgofhbdaopapaaGreatDoorPkAY
import Derived.Test.YtmgofhbdaopapaaGreatDoorPkAP
import Derived.BigQuiet
namespace Go.Proofs.YtmgofhbdaopapaaGreatDoor
open Go.RowKit

theorem Past.place {s : List UInt8} {k : Nat} {l L : List Nat} (h : Past s k l) (hr : decR s = some L) : k = (encL l).length := by
  have h1 := congrArg List.length (h.took hr).2
  rw [List.length_take] at h1
  have := h.1
  omega

set_option maxRecDepth 20000 in
set_option maxHeartbeats 3200000 in
theorem prSpace_any (s : List UInt8) (L : List Nat) (w : World) (hd : decR s = some L) (hlen : s.length ≤ 5000) :
    Calls Tryz.prog 57 #[.string (str s)] w fun e w' => e = .returned (.tuple #[.int .i64 ((spaceN s).1 : Int), .int .i64 ((spaceN s).2 : Int)]) ∧ Below w.heap.size w w' := by
  obtain ⟨hs0, hok0⟩ := enc_dec hd
  have HS := Lib.hid hs0
  have HOk := Lib.hid hok0
  have HT := Lib.hid hd
  obtain ⟨R, hR⟩ : ∃ R, spaceN s = R := ⟨_, rfl⟩
  rw [hR]
  have HR := Lib.hid hR
  have hsz : (str s).size = s.length := rfl
  clear hR hs0 hok0 hd
  go_enter Tryz.func57, Tryz.ntmps57
  go_wp2
  go_loopw [2] (fun v wr => ∃ (pos : Nat) (l : List Nat) (E : Int), v = .int .i64 E ∧ Hid (EndAt l E) ∧ wr.heap[w.heap.size]? = some (.stringIter (str s) pos) ∧ Hid (Past s pos l) ∧ Below w.heap.size w wr) (fun _ wr => s.length - wr.iterPos w.heap.size)
  case atStart =>
    exact ⟨0, [], -1, rfl, Lib.hid EndAt.start, World.iter_heap w (str s) 0, Lib.hid (Past.start s), (Below.refl _ _).alloc (Nat.le_refl _) _⟩
  case round =>
    obtain ⟨pos, l, E, rfl, HE, hit, HP, hb⟩ := hrel
    have hks : w.heap.size < wr.heap.size := (Array.getElem?_eq_some_iff.1 hit).1
    by_cases hp : pos < s.length
    · obtain ⟨c, n, hcn⟩ : ∃ c n, Utf8.decode (str s) pos = (c, n) := ⟨_, _, rfl⟩
      have hnx : ∀ ty, (Instr.next (.pointer (some ⟨w.heap.size, 0, none⟩)) true ty).run Tryz.prog wr = _ := fun ty => Lib.run_next_any_at wr w.heap.size (str s) pos ty hit hp
      have hit2 := Lib.iterAt_heap wr w.heap.size (str s) pos (pos + (Utf8.decode (str s) pos).2) hit
      have hbw2 := Lib.below_iterAt hb (k := w.heap.size) (by omega) (str s) (pos + (Utf8.decode (str s) pos).2)
      have hcm := decode_le (str s) pos
      simp only [hcn] at hnx hit2 hbw2 hcm
      have hcz : (c : Int) ≤ 2147483647 := by omega
      have hcz0 : (0 : Int) ≤ (c : Int) := by omega
      have hc : hasR (c : Int) = true := by
        cases hc : hasR (c : Int) with
        | true => rfl
        | false => have h := HP.out.rune_bad hp hcn hc; rw [HT.out] at h; cases h
      obtain ⟨h1, h0⟩ := HP.out.rune hp hcn hc
      have HN := Lib.hid h1
      have hle := h1.1
      have hpl := HP.out.place HT.out
      obtain ⟨m, hm⟩ := (h1.took HT.out).1
      rw [List.append_assoc] at hm
      have HFd : Hid (c ≠ 32 → 0 ≤ E → ∃ N : Nat, E = (N : Int) ∧ R = (N, pos)) := Lib.hid (fun h2 h3 => by
        obtain ⟨N, e1, e2⟩ := EndAt.found (s := s) (l := l) (m := m) (c := c) (by have h4 := HOk.out; rw [hm] at h4; exact h4) (by have h4 := HS.out; rw [hm] at h4; exact h4.symm) HE.out h3 h2
        exact ⟨N, e1, by rw [← HR.out, e2, ← hpl]⟩)
      have HFst : Hid (E < 0 → EndAt (l ++ [32]) (pos : Int)) := Lib.hid (fun h2 => by rw [hpl]; exact HE.out.first h2)
      have HMo : Hid (0 ≤ E → EndAt (l ++ [32]) E) := Lib.hid (fun h2 => HE.out.more h2)
      have HOt : Hid (E < 0 → c ≠ 32 → EndAt (l ++ [c]) E) := Lib.hid (fun h2 h3 => HE.out.other h2 h3)
      have hplz : pos ≤ 5000 := by omega
      obtain ⟨W, hW⟩ : ∃ W, wr.iterAt w.heap.size (str s) (pos + n) = W := ⟨_, rfl⟩
      rw [hW] at hnx hit2 hbw2
      clear hcn h1 hc hW hm hpl
      by_cases h32 : c = 32
      · have t1 : ((c : Int) != 32) = false := by rw [h32]; rfl
        have t2 : ((c : Int) == 32) = true := by rw [h32]; rfl
        have e32 : l ++ [c] = l ++ [32] := by rw [h32]
        rw [e32] at HN
        clear e32 h32 HFd HOt
        by_cases hE : E < 0
        · have t3 : decide (E < 0) = true := decide_eq_true hE
          have HE2 := Lib.hid (HFst.out hE)
          clear HFst HMo hE
          go_wp2
          go_roundw
          case rel => exact ⟨pos + n, _, _, rfl, HE2, hit2, HN, hbw2⟩
          case measure =>
            rw [iterPos_of hit2, iterPos_of hit]
            omega
        · have t3 : decide (E < 0) = false := decide_eq_false hE
          have HE2 := Lib.hid (HMo.out (by omega))
          clear HFst HMo hE
          go_wp2
          go_roundw
          case rel => exact ⟨pos + n, _, _, rfl, HE2, hit2, HN, hbw2⟩
          case measure =>
            rw [iterPos_of hit2, iterPos_of hit]
            omega
      · have t1 : ((c : Int) != 32) = true := by
          have h9 : ((c : Int) == 32) = false := eqb_false (by omega)
          rw [bne, h9]; rfl
        have t2 : ((c : Int) == 32) = false := eqb_false (by omega)
        clear HFst HMo
        by_cases hE : E < 0
        · have t3 : decide (0 ≤ E) = false := decide_eq_false (by omega)
          have HE2 := Lib.hid (HOt.out hE h32)
          clear HOt HFd hE h32
          go_wp2
          go_roundw
          case rel => exact ⟨pos + n, _, _, rfl, HE2, hit2, HN, hbw2⟩
          case measure =>
            rw [iterPos_of hit2, iterPos_of hit]
            omega
        · have t3 : decide (0 ≤ E) = true := decide_eq_true (by omega)
          obtain ⟨N, rfl, e2⟩ := HFd.out h32 (by omega)
          have HE2 := Lib.hid e2
          clear HOt HFd hE h32 e2
          go_wp2
          go_ret2
          rw [HE2.out]
          exact ⟨rfl, hbw2⟩
    · have HE2 : Hid (R = (0, 0)) := Lib.hid (by
        have h := HP.out.done hp
        obtain ⟨h2, h3⟩ := enc_dec h
        rw [← HR.out]
        exact EndAt.none_ h3 h2.symm HE.out)
      have hnx : ∀ ty, (Instr.next (.pointer (some ⟨w.heap.size, 0, none⟩)) true ty).run Tryz.prog wr = _ := fun ty => Lib.run_next_end_at wr w.heap.size (str s) pos ty hit hp
      go_wp2
      go_ret2
      rw [HE2.out]
      exact ⟨rfl, hb⟩

set_option maxRecDepth 20000 in
set_option maxHeartbeats 6400000 in
theorem prDivide9_any (lang s : List UInt8) (w : World) (hS : Ready9 w) (hl : lang.length ≤ 1000) (hs : s.length ≤ 500) :
    Calls Tryz.prog 29 #[.string (str lang), .string (str s)] w fun e w' => e = .returned (.tuple #[.int .i64 ((divN lang s).1 : Int), .int .i64 ((divN lang s).2 : Int)]) ∧ Below w.heap.size w w' := by
  have HAr := Lib.hid (prArticles9_any lang w hl)
  have HFew := Lib.hid (arts_few lang)
  have HCu := Lib.hid (fun W (hW : Below w.heap.size w W) => prCut_any s 2 W (hS.below hW) (by omega))
  by_cases h0 : (cutR s 2).length = 0
  · have hD : divN lang s = (0, 0) := by unfold divN; rw [if_pos h0]
    rw [hD]
    have hC : cutR s 2 = [] := List.length_eq_zero_iff.1 h0
    rw [hC] at HCu
    have hsz : (str ([] : List UInt8)).size = 0 := rfl
    clear hD hC h0 hS
    go_enter Tryz.func29, Tryz.ntmps29
    go_wp2_with fail
    refine HAr.out.mono ?_
    rintro e w1 ⟨A, n, c, rfl, hA, k1⟩
    have HA1 := Lib.hid hA
    have hn : n ≤ 20 := by have := hA.len; have := HFew.out; omega
    clear hA
    go_wp2_with fail
    refine (HCu.out _ k1).mono ?_
    rintro e w2 ⟨rfl, k2⟩
    have b2 := below_next k1 k2
    have HA2 := Lib.hid (HA1.out.up k2)
    go_wp2
    go_ret2
    exact ⟨rfl, b2⟩
  obtain ⟨L, hL⟩ : ∃ L, decR s = some L := by
    cases hd : decR s with
    | none => rw [cutR_none hd] at h0; exact absurd rfl h0
    | some L => exact ⟨L, rfl⟩
  have hcl : (cutR s 2).length ≤ s.length := by
    rw [cutR_some hL (by decide)]
    obtain ⟨e1, _⟩ := enc_dec hL
    rw [← e1]
    conv => rhs; rw [← List.take_append_drop 2 L, encL_app, List.length_append]
    exact Nat.le_add_right _ _
  have hel : (spaceN s).1 ≤ s.length := by
    obtain ⟨-, -, -, -, hwl⟩ := word_split s
    unfold spaceN
    split
    · exact hwl
    · exact Nat.zero_le _
  have hsl1 := fun W => str_pre (P := Tryz.prog) 9 Tryz.underlying9 s (cutR s 2).length hcl W
  have hsl2 := fun W => str_pre (P := Tryz.prog) 9 Tryz.underlying9 s (spaceN s).1 hel W
  have HDs := Lib.hid (fun W => prSpace_any s L W hL (by omega))
  have HI1 := Lib.hid (fun W (hW : Below w.heap.size w W) A n c (h : Arr sv W W.heap.size (.slice A n c) (artsOf lang)) (hn : n ≤ 20) => (show Calls Tryz.prog 56 #[.slice A n c, .string (str (s.take (cutR s 2).length)), .bool true] W fun e w' => e = .returned (.bool (artB lang (s.take (cutR s 2).length) true)) ∧ Below W.heap.size W w' from prIsArt_any A n c (artsOf lang) (s.take (cutR s 2).length) true W (hS.below hW) h (by omega) (by rw [List.length_take]; omega)))
  have HI2 := Lib.hid (fun W (hW : Below w.heap.size w W) A n c (h : Arr sv W W.heap.size (.slice A n c) (artsOf lang)) (hn : n ≤ 20) => (show Calls Tryz.prog 56 #[.slice A n c, .string (str (s.take (spaceN s).1)), .bool false] W fun e w' => e = .returned (.bool (artB lang (s.take (spaceN s).1) false)) ∧ Below W.heap.size W w' from prIsArt_any A n c (artsOf lang) (s.take (spaceN s).1) false W (hS.below hW) h (by omega) (by rw [List.length_take]; omega)))
  have hDv : divN lang s = if artB lang (s.take (cutR s 2).length) true = true ∧ (cutR s 2).length < s.length ∧ s[(cutR s 2).length]? ≠ some 32 then ((cutR s 2).length, (cutR s 2).length)
    else if artB lang (s.take (spaceN s).1) false = true then spaceN s else (0, 0) := by unfold divN; rw [if_neg h0]
  obtain ⟨l, hl9⟩ : ∃ l, artsOf lang = l := ⟨_, rfl⟩
  rw [hl9] at HAr HFew HI1 HI2
  obtain ⟨D, hD⟩ : ∃ D, divN lang s = D := ⟨_, rfl⟩
  rw [hD] at hDv ⊢
  obtain ⟨R1, hR1⟩ : ∃ r, artB lang (s.take (cutR s 2).length) true = r := ⟨_, rfl⟩
  obtain ⟨R2, hR2⟩ : ∃ r, artB lang (s.take (spaceN s).1) false = r := ⟨_, rfl⟩
  rw [hR1] at HI1 hDv
  rw [hR2] at HI2 hDv
  obtain ⟨Cu, hCu⟩ : ∃ C, cutR s 2 = C := ⟨_, rfl⟩
  rw [hCu] at HCu HI1 hDv hcl hsl1 h0
  have hCz : (str Cu).size = Cu.length := rfl
  obtain ⟨T, hT⟩ : ∃ T, Cu.length = T := ⟨_, rfl⟩
  rw [hT] at HI1 hDv hcl hsl1 h0 hCz
  obtain ⟨Sp, hSp⟩ : ∃ S, spaceN s = S := ⟨_, rfl⟩
  rw [hSp] at HDs HI2 hDv hel hsl2
  obtain ⟨E, R⟩ := Sp
  simp only at HDs HI2 hDv hel hsl2
  have hsz : (str s).size = s.length := rfl
  have z0 : ((T : Int) == 0) = false := eqb_false (by omega)
  clear hL hl9 hD hR1 hR2 hCu hT hSp hS hl
  by_cases g1 : R1 = true
  · subst g1
    by_cases g2 : T < s.length
    · have q2 : decide ((T : Int) < (s.length : Int)) = true := decide_eq_true (by omega)
      have q2n : decide (T < s.length) = true := decide_eq_true g2
      have q2z : (T : Int) < (s.length : Int) := by omega
      have hkT : T < (str s).size := g2
      have hTT := str_at s T hkT
      by_cases g3 : (str s)[T] = 32
      · have q3 : (((str s)[T].toNat : Int) != 32) = false := by rw [g3]; rfl
        have HE : Hid ((R2 = false → D = (0, 0)) ∧ (R2 = true → D = (E, R))) := Lib.hid (by
          rw [if_neg (by rintro ⟨-, -, h9⟩; exact h9 (by rw [hTT, g3]))] at hDv
          exact ⟨fun e => by rw [hDv, e]; rfl, fun e => by rw [hDv, e]; rfl⟩)
        clear hDv g3 hTT h0 g2
        go_enter Tryz.func29, Tryz.ntmps29
        go_wp2_with fail
        refine HAr.out.mono ?_
        rintro e w1 ⟨A, n, c, rfl, hA, k1⟩
        have HA1 := Lib.hid hA
        have hn : n ≤ 20 := by have := hA.len; have := HFew.out; omega
        clear hA
        go_wp2_with fail
        refine (HCu.out _ k1).mono ?_
        rintro e w2 ⟨rfl, k2⟩
        have b2 := below_next k1 k2
        have HA2 := Lib.hid (HA1.out.up k2)

        go_wp2_with fail
        refine (HI1.out _ b2 _ _ _ HA2.out hn).mono ?_
        rintro e w3 ⟨rfl, k3⟩
        have b4 := below_next b2 k3
        have HA2 := Lib.hid (HA2.out.up k3)

        go_wp2_with fail
        refine (HDs.out _).mono ?_
        rintro e w5 ⟨rfl, k5⟩
        have b5 := below_next b4 k5
        go_wp2_with fail
        refine (HI2.out _ b5 _ _ _ (HA2.out.up k5) hn).mono ?_
        rintro e w6 ⟨rfl, k6⟩
        have b6 := below_next b5 k6
        cases R2 with
        | true =>
          have hE : D = (E, R) := HE.out.2 rfl
          subst hE
          go_wp2
          go_ret2
          exact ⟨rfl, b6⟩
        | false =>
          have hE : D = (0, 0) := HE.out.1 rfl
          subst hE
          go_wp2
          go_ret2
          exact ⟨rfl, b6⟩
      · have q3 : (((str s)[T].toNat : Int) != 32) = true := by
          have h1 : (((str s)[T].toNat : Int) == 32) = false := eqb_false (fun e2 => g3 (UInt8.toNat_inj.1 (by simpa using Int.ofNat.inj e2)))
          rw [bne, h1]; rfl
        have hE : D = (T, T) := by
          rw [if_pos ⟨rfl, g2, by rw [hTT]; simpa using g3⟩] at hDv
          exact hDv
        subst hE
        clear hDv g3 hTT h0 g2
        go_enter Tryz.func29, Tryz.ntmps29
        go_wp2_with fail
        refine HAr.out.mono ?_
        rintro e w1 ⟨A, n, c, rfl, hA, k1⟩
        have HA1 := Lib.hid hA
        have hn : n ≤ 20 := by have := hA.len; have := HFew.out; omega
        clear hA
        go_wp2_with fail
        refine (HCu.out _ k1).mono ?_
        rintro e w2 ⟨rfl, k2⟩
        have b2 := below_next k1 k2
        have HA2 := Lib.hid (HA1.out.up k2)

        go_wp2_with fail
        refine (HI1.out _ b2 _ _ _ HA2.out hn).mono ?_
        rintro e w3 ⟨rfl, k3⟩
        have b4 := below_next b2 k3
        have HA2 := Lib.hid (HA2.out.up k3)

        go_wp2
        go_ret2
        exact ⟨rfl, b4⟩
    · have q2 : decide ((T : Int) < (s.length : Int)) = false := decide_eq_false (by omega)
      have q2n : decide (T < s.length) = false := decide_eq_false g2
      have HE : Hid ((R2 = false → D = (0, 0)) ∧ (R2 = true → D = (E, R))) := Lib.hid (by
        rw [if_neg (by rintro ⟨-, h9, -⟩; exact g2 h9)] at hDv
        exact ⟨fun e => by rw [hDv, e]; rfl, fun e => by rw [hDv, e]; rfl⟩)
      clear hDv h0 g2
      go_enter Tryz.func29, Tryz.ntmps29
      go_wp2_with fail
      refine HAr.out.mono ?_
      rintro e w1 ⟨A, n, c, rfl, hA, k1⟩
      have HA1 := Lib.hid hA
      have hn : n ≤ 20 := by have := hA.len; have := HFew.out; omega
      clear hA
      go_wp2_with fail
      refine (HCu.out _ k1).mono ?_
      rintro e w2 ⟨rfl, k2⟩
      have b2 := below_next k1 k2
      have HA2 := Lib.hid (HA1.out.up k2)

      go_wp2_with fail
      refine (HI1.out _ b2 _ _ _ HA2.out hn).mono ?_
      rintro e w3 ⟨rfl, k3⟩
      have b4 := below_next b2 k3
      have HA2 := Lib.hid (HA2.out.up k3)

      go_wp2_with fail
      refine (HDs.out _).mono ?_
      rintro e w5 ⟨rfl, k5⟩
      have b5 := below_next b4 k5
      go_wp2_with fail
      refine (HI2.out _ b5 _ _ _ (HA2.out.up k5) hn).mono ?_
      rintro e w6 ⟨rfl, k6⟩
      have b6 := below_next b5 k6
      cases R2 with
      | true =>
        have hE : D = (E, R) := HE.out.2 rfl
        subst hE
        go_wp2
        go_ret2
        exact ⟨rfl, b6⟩
      | false =>
        have hE : D = (0, 0) := HE.out.1 rfl
        subst hE
        go_wp2
        go_ret2
        exact ⟨rfl, b6⟩
  · obtain rfl : R1 = false := by simpa using g1
    have HE : Hid ((R2 = false → D = (0, 0)) ∧ (R2 = true → D = (E, R))) := Lib.hid (by
      rw [if_neg (by rintro ⟨h9, -⟩; cases h9)] at hDv
      exact ⟨fun e => by rw [hDv, e]; rfl, fun e => by rw [hDv, e]; rfl⟩)
    clear hDv h0 g1
    go_enter Tryz.func29, Tryz.ntmps29
    go_wp2_with fail
    refine HAr.out.mono ?_
    rintro e w1 ⟨A, n, c, rfl, hA, k1⟩
    have HA1 := Lib.hid hA
    have hn : n ≤ 20 := by have := hA.len; have := HFew.out; omega
    clear hA
    go_wp2_with fail
    refine (HCu.out _ k1).mono ?_
    rintro e w2 ⟨rfl, k2⟩
    have b2 := below_next k1 k2
    have HA2 := Lib.hid (HA1.out.up k2)

    go_wp2_with fail
    refine (HI1.out _ b2 _ _ _ HA2.out hn).mono ?_
    rintro e w3 ⟨rfl, k3⟩
    have b4 := below_next b2 k3
    have HA2 := Lib.hid (HA2.out.up k3)

    go_wp2_with fail
    refine (HDs.out _).mono ?_
    rintro e w5 ⟨rfl, k5⟩
    have b5 := below_next b4 k5
    go_wp2_with fail
    refine (HI2.out _ b5 _ _ _ (HA2.out.up k5) hn).mono ?_
    rintro e w6 ⟨rfl, k6⟩
    have b6 := below_next b5 k6
    cases R2 with
    | true =>
      have hE : D = (E, R) := HE.out.2 rfl
      subst hE
      go_wp2
      go_ret2
      exact ⟨rfl, b6⟩
    | false =>
      have hE : D = (0, 0) := HE.out.1 rfl
      subst hE
      go_wp2
      go_ret2
      exact ⟨rfl, b6⟩

end Go.Proofs.YtmgofhbdaopapaaGreatDoor

namespace Go.Proofs.YtmgofhbdaopapaaGreatDoor
open Go.RowKit

theorem prDiv9_any (lang s : List UInt8) (w : World) (hS : Ready9 w) (hl : lang.length ≤ 1000) (hs : s.length ≤ 500) :
    Calls Tryz.prog 29 #[.string (str lang), .string (str s)] w fun e w' => e = .returned (.tuple #[.int .i64 ((beginN lang s).1 : Int), .int .i64 ((beginN lang s).2 : Int)]) ∧ Below w.heap.size w w' := by
  rw [← div_begin]
  exact prDivide9_any lang s w hS hl hs

set_option maxRecDepth 20000 in
set_option maxHeartbeats 3200000 in
theorem prSkip9_any (lang s : List UInt8) (w : World) (hS : Ready9 w) (hl : lang.length ≤ 1000) (hs : s.length ≤ 500) :
    Calls Tryz.prog 9 #[.string (str lang), .string (str s)] w fun e w' => e = .returned (.int .i64 (skipN lang s : Int)) ∧ Below w.heap.size w w' := by
  have HB := Lib.hid (prDiv9_any lang s w hS hl hs)
  unfold skipN
  obtain ⟨N, hN⟩ : ∃ N, beginN lang s = N := ⟨_, rfl⟩
  rw [hN] at HB ⊢
  clear hN
  go_enter Tryz.func9, Tryz.ntmps9
  go_wp2_with fail
  refine HB.out.mono ?_
  rintro e w1 ⟨rfl, k1⟩
  go_wp2
  go_ret
  exact ⟨rfl, k1⟩

set_option maxRecDepth 20000 in
set_option maxHeartbeats 3200000 in
theorem prStrip9_any (lang s : List UInt8) (w : World) (hS : Ready9 w) (hl : lang.length ≤ 1000) (hs : s.length ≤ 500) :
    Calls Tryz.prog 11 #[.string (str lang), .string (str s)] w fun e w' => e = .returned (.string (str (stripN lang s))) ∧ Below w.heap.size w w' := by
  have HB := Lib.hid (prSkip9_any lang s w hS hl hs)
  have hle := (begin_le lang s).2
  have hsl := fun W => str_suf (P := Tryz.prog) 9 Tryz.underlying9 s (skipN lang s) hle W
  unfold stripN
  obtain ⟨N, hN⟩ : ∃ N, skipN lang s = N := ⟨_, rfl⟩
  rw [hN] at HB hsl ⊢
  clear hN hle
  go_enter Tryz.func11, Tryz.ntmps11
  go_wp2_with fail
  refine HB.out.mono ?_
  rintro e w1 ⟨rfl, k1⟩
  go_wp2
  go_ret
  exact ⟨rfl, k1⟩

set_option maxRecDepth 20000 in
set_option maxHeartbeats 3200000 in
theorem prInvert9_any (lang s : List UInt8) (w : World) (hS : Ready9 w) (hl : lang.length ≤ 1000) (hs : s.length ≤ 500) :
    Calls Tryz.prog 13 #[.string (str lang), .string (str s)] w fun e w' => e = .returned (.string (str (invN lang s))) ∧ Below w.heap.size w w' := by
  have HB := Lib.hid (prDiv9_any lang s w hS hl hs)
  obtain ⟨hl1, hl2⟩ := begin_le lang s
  have hsl1 := fun W => str_pre (P := Tryz.prog) 9 Tryz.underlying9 s (beginN lang s).1 hl1 W
  have hsl2 := fun W => str_suf (P := Tryz.prog) 9 Tryz.underlying9 s (beginN lang s).2 hl2 W
  unfold invN
  obtain ⟨N, hN⟩ : ∃ N, beginN lang s = N := ⟨_, rfl⟩
  rw [hN] at HB hsl1 hsl2 hl1 hl2 ⊢
  obtain ⟨a, b⟩ := N
  simp only at HB hsl1 hsl2 hl1 hl2 ⊢
  have hA : (s.drop b).length ≤ 500 := by rw [List.length_drop]; omega
  have hB : (s.take a).length ≤ 500 := by rw [List.length_take]; omega
  obtain ⟨X, hX⟩ : ∃ X, s.drop b = X := ⟨_, rfl⟩
  obtain ⟨Y, hY⟩ : ∃ Y, s.take a = Y := ⟨_, rfl⟩
  rw [hX] at hsl2 hA ⊢
  rw [hY] at hsl1 hB ⊢
  have HR : Hid (str X ++ (⟨#[44, 32]⟩ : ByteArray) ++ str Y = str (X ++ [44, 32] ++ Y)) := Lib.hid (by
    have h1 : (⟨#[44, 32]⟩ : ByteArray) = str [44, 32] := rfl
    rw [h1, str_append, str_append])
  have c1 : ¬ 9223372036854775807 < (str X).size + 2 := by
    have e1 : (str X).size = X.length := rfl
    omega
  have c2 : ¬ 9223372036854775807 < (str X).size + 2 + (str Y).size := by
    have e1 : (str X).size = X.length := rfl
    have e2 : (str Y).size = Y.length := rfl
    omega
  have c3 : ¬ 9223372036854775807 < (str X ++ (⟨#[44, 32]⟩ : ByteArray)).size + (str Y).size := by
    have e1 : (str X ++ (⟨#[44, 32]⟩ : ByteArray)).size = X.length + 2 := by
      have h1 : (⟨#[44, 32]⟩ : ByteArray) = str [44, 32] := rfl
      rw [h1, str_append, str_size, List.length_append]
      rfl
    have e2 : (str Y).size = Y.length := rfl
    omega
  clear hN hX hY
  by_cases h0 : b = 0
  · subst h0
    rw [if_pos rfl]
    go_enter Tryz.func13, Tryz.ntmps13
    go_wp2_with fail
    refine HB.out.mono ?_
    rintro e w1 ⟨rfl, k1⟩
    go_wp2
    go_ret
    exact ⟨rfl, k1⟩
  · rw [if_neg h0]
    have t0 : ((b : Int) == 0) = false := eqb_false (by omega)
    clear h0
    go_enter Tryz.func13, Tryz.ntmps13
    go_wp2_with fail
    refine HB.out.mono ?_
    rintro e w1 ⟨rfl, k1⟩
    go_wp2
    go_big_quiet (fail)
    go_wp2
    rw [HR.out]
    go_ret
    exact ⟨rfl, by first | exact below_drewN k1 _ | exact k1⟩

theorem cut_len9 (s : List UInt8) (k : Int) : (cutR s k).length ≤ s.length := by
  by_cases h1 : k < 1
  · rw [cutR_less h1]; exact Nat.zero_le _
  · cases hd : decR s with
    | none => rw [cutR_none hd]; exact Nat.zero_le _
    | some l =>
      rw [cutR_some hd h1]
      obtain ⟨e1, _⟩ := enc_dec hd
      rw [← e1]
      conv => rhs; rw [← List.take_append_drop k.toNat l, encL_app, List.length_append]
      exact Nat.le_add_right _ _
theorem trimL9_any (a : List UInt8) (w : World) :
    Calls Tryz.prog 32 #[.string (str a), .string ⟨#[32]⟩] w fun e w' => e = .returned (.string (str (Lib.trimLeftB a 32))) ∧ Below w.heap.size w w' := by
  have h1 := Go.Proofs.Any.strings_TrimLeft_one trimlLays (str a) 32 (by decide) w
  have e1 : (str a).data.toList = a := by simp [str]
  rw [e1] at h1
  refine Calls.mono (show Calls Tryz.prog 32 #[.string (str a), .string ⟨#[32]⟩] w _ from h1) ?_
  rintro e w' ⟨rfl, rfl⟩
  exact ⟨rfl, Below.refl _ _⟩
theorem sortP_cases (s : List UInt8) (k : Int) : (cutR s k = [] → sortP s k = s) ∧ (9 < k → sortP s k = s) ∧ (s.drop (spN s (cutR s k).length) = [] → sortP s k = s) ∧ (cutR s k ≠ [] → ¬ 9 < k → s.drop (spN s (cutR s k).length) ≠ [] → sortP s k = s.drop (spN s (cutR s k).length)) := by
  unfold sortP
  refine ⟨fun h => if_pos (.inl h), fun h => if_pos (.inr (.inl h)), fun h => if_pos (.inr (.inr h)), fun h1 h2 h3 => if_neg ?_⟩
  rintro (h | h | h)
  · exact h1 h
  · exact h2 h
  · exact h3 h

set_option maxRecDepth 20000 in
set_option maxHeartbeats 3200000 in
theorem prSort9_any (s : List UInt8) (k : Int) (w : World) (hS : Ready9 w) (hk : k ≤ 9223372036854775807) (hs : s.length ≤ 500) :
    Calls Tryz.prog 15 #[.string (str s), .int .i64 k] w fun e w' => e = .returned (.string (str (sortA s k))) ∧ Below w.heap.size w w' := by
  have HCu := Lib.hid (prCut_any s k w hS hk)
  have hcl : (cutR s k).length ≤ s.length := cut_len9 s k
  have hsl := fun W => str_suf (P := Tryz.prog) 9 Tryz.underlying9 s (cutR s k).length hcl W
  have HTr := Lib.hid (fun W => trimL9_any (s.drop (cutR s k).length) W)
  rw [trim_left9] at HTr
  obtain ⟨c1, c2, c3, c4⟩ := sortP_cases s k
  rw [sortP_eq] at c1 c2 c3 c4
  obtain ⟨R, hR⟩ : ∃ R, sortA s k = R := ⟨_, rfl⟩
  rw [hR] at c1 c2 c3 c4 ⊢
  obtain ⟨Cu, hCu⟩ : ∃ C, cutR s k = C := ⟨_, rfl⟩
  rw [hCu] at HCu hsl HTr c1 c3 c4
  obtain ⟨X, hX⟩ : ∃ X, s.drop (spN s Cu.length) = X := ⟨_, rfl⟩
  rw [hX] at HTr c3 c4
  have hsz : (str Cu).size = Cu.length := rfl
  have hsz2 : (str s).size = s.length := rfl
  have q1 := strs_beq Cu []
  have q2 := strs_beq X []
  have e0 : (str ([] : List UInt8)).toList = [] := str_toList []
  rw [e0] at q1 q2
  clear hR hCu hX hcl hS
  by_cases g1 : Cu = []
  · have t1 : ((str Cu).toList == []) = true := q1.trans (decide_eq_true g1)
    obtain rfl := c1 g1
    clear q1 q2 c1 c2 c3 c4 g1
    go_enter Tryz.func15, Tryz.ntmps15
    go_wp2_with fail
    refine HCu.out.mono ?_
    rintro e w1 ⟨rfl, k1⟩
    go_wp2_with fail
    refine (HTr.out _).mono ?_
    rintro e w2 ⟨rfl, k2⟩
    go_wp2
    go_ret
    exact ⟨rfl, below_next k1 k2⟩
  have t1 : ((str Cu).toList == []) = false := q1.trans (decide_eq_false g1)
  by_cases g2 : 9 < k
  · have t2 : decide (9 < k) = true := decide_eq_true g2
    obtain rfl := c2 g2
    clear q1 q2 c1 c2 c3 c4 g1 g2
    go_enter Tryz.func15, Tryz.ntmps15
    go_wp2_with fail
    refine HCu.out.mono ?_
    rintro e w1 ⟨rfl, k1⟩
    go_wp2_with fail
    refine (HTr.out _).mono ?_
    rintro e w2 ⟨rfl, k2⟩
    go_wp2
    go_ret
    exact ⟨rfl, below_next k1 k2⟩
  have t2 : decide (9 < k) = false := decide_eq_false g2
  by_cases g3 : X = []
  · have t3 : ((str X).toList == []) = true := q2.trans (decide_eq_true g3)
    obtain rfl := c3 g3
    clear q1 q2 c1 c2 c3 c4 g1 g2 g3
    go_enter Tryz.func15, Tryz.ntmps15
    go_wp2_with fail
    refine HCu.out.mono ?_
    rintro e w1 ⟨rfl, k1⟩
    go_wp2_with fail
    refine (HTr.out _).mono ?_
    rintro e w2 ⟨rfl, k2⟩
    go_wp2
    go_ret
    exact ⟨rfl, below_next k1 k2⟩
  · have t3 : ((str X).toList == []) = false := q2.trans (decide_eq_false g3)
    obtain rfl := c4 g1 g2 g3
    clear q1 q2 c1 c2 c3 c4 g1 g2 g3
    go_enter Tryz.func15, Tryz.ntmps15
    go_wp2_with fail
    refine HCu.out.mono ?_
    rintro e w1 ⟨rfl, k1⟩
    go_wp2_with fail
    refine (HTr.out _).mono ?_
    rintro e w2 ⟨rfl, k2⟩
    go_wp2
    go_ret
    exact ⟨rfl, below_next k1 k2⟩

end Go.Proofs.YtmgofhbdaopapaaGreatDoor

namespace Go.Proofs.YtmgofhbdaopapaaGreatDoor
open Go.RowKit

theorem aw9a : stripN [101, 110, 103] [84, 104, 101, 32, 32, 69, 110, 100] = [69, 110, 100] := by kernel_rfl
theorem aw9b : invN [102, 114, 101] [76, 39, 97, 118, 97, 114, 101] = [97, 118, 97, 114, 101, 44, 32, 76, 39] := by kernel_rfl
theorem aw9c : sortA [68, 105, 101, 32, 82, 195, 164, 117, 98, 101, 114] 4 = [82, 195, 164, 117, 98, 101, 114] := by kernel_rfl
theorem aw9d : artsOf [101, 110, 103] = [[116, 104, 101], [97], [97, 110]] := by kernel_rfl

set_option maxRecDepth 20000 in
set_option maxHeartbeats 3200000 in
theorem awake9_any (w : World) (hS : Ready9 w) : Calls Tryz.prog 8 #[] w fun e w' => e = .returned (.bool true) ∧ Below w.heap.size w w' := by
  have h1 := fun W (hW : Below w.heap.size w W) => prStrip9_any [101, 110, 103] [84, 104, 101, 32, 32, 69, 110, 100] W (hS.below hW) (by decide) (by decide)
  have h2 := fun W (hW : Below w.heap.size w W) => prInvert9_any [102, 114, 101] [76, 39, 97, 118, 97, 114, 101] W (hS.below hW) (by decide) (by decide)
  have h3 := fun W (hW : Below w.heap.size w W) => prSort9_any [68, 105, 101, 32, 82, 195, 164, 117, 98, 101, 114] 4 W (hS.below hW) (by decide) (by decide)
  have h4 := fun W (_ : Below w.heap.size w W) => prLanguages9_any W
  have h5 := fun W (_ : Below w.heap.size w W) => prArticles9_any [101, 110, 103] W (by decide)
  rw [aw9a] at h1
  rw [aw9b] at h2
  rw [aw9c] at h3
  rw [aw9d] at h5
  have e1 : str [101, 110, 103] = ⟨#[101, 110, 103]⟩ := rfl
  have e2 : str [84, 104, 101, 32, 32, 69, 110, 100] = ⟨#[84, 104, 101, 32, 32, 69, 110, 100]⟩ := rfl
  have e3 : str [69, 110, 100] = ⟨#[69, 110, 100]⟩ := rfl
  have e4 : str [102, 114, 101] = ⟨#[102, 114, 101]⟩ := rfl
  have e5 : str [76, 39, 97, 118, 97, 114, 101] = ⟨#[76, 39, 97, 118, 97, 114, 101]⟩ := rfl
  have e6 : str [97, 118, 97, 114, 101, 44, 32, 76, 39] = ⟨#[97, 118, 97, 114, 101, 44, 32, 76, 39]⟩ := rfl
  have e7 : str [68, 105, 101, 32, 82, 195, 164, 117, 98, 101, 114] = ⟨#[68, 105, 101, 32, 82, 195, 164, 117, 98, 101, 114]⟩ := rfl
  have e8 : str [82, 195, 164, 117, 98, 101, 114] = ⟨#[82, 195, 164, 117, 98, 101, 114]⟩ := rfl
  simp only [e1, e2, e3, e4, e5, e6, e7, e8] at h1 h2 h3 h5
  have H1 := Lib.hid h1
  have H2 := Lib.hid h2
  have H3 := Lib.hid h3
  have H4 := Lib.hid h4
  have H5 := Lib.hid h5
  clear h1 h2 h3 h4 h5 e1 e2 e3 e4 e5 e6 e7 e8
  go_enter Tryz.func8, Tryz.ntmps8
  go_wp2_with fail
  refine (H1.out _ (Below.refl _ _)).mono ?_
  rintro e w1 ⟨rfl, k1⟩
  go_wp2_with fail
  refine (H2.out _ k1).mono ?_
  rintro e w2 ⟨rfl, k2⟩
  have b2 := below_next k1 k2
  go_wp2_with fail
  refine (H3.out _ b2).mono ?_
  rintro e w3 ⟨rfl, k3⟩
  have b3 := below_next b2 k3
  go_wp2_with fail
  refine (H4.out _ b3).mono ?_
  rintro e w4 ⟨A4, c4, rfl, -, k4⟩
  have b4 := below_next b3 k4
  go_wp2_with fail
  refine (H5.out _ b4).mono ?_
  rintro e w5 ⟨A5, n5, c5, rfl, hA5, k5⟩
  obtain rfl : n5 = 3 := hA5.len.symm
  have b5 := below_next b4 k5
  clear hA5
  go_wp2
  go_ret
  exact ⟨rfl, b5⟩

end Go.Proofs.YtmgofhbdaopapaaGreatDoor

namespace Go.Proofs.YtmgofhbdaopapaaGreatDoor
open Go.RowKit

set_option maxRecDepth 20000 in
set_option maxHeartbeats 3200000 in
theorem articleSkip_v (lang s : List UInt8) (w : World) (hS : Ready9 w) (h1 : lang.length ≤ 9223372036854775807) (h2 : s.length ≤ 9223372036854775807) :
    Calls Tryz.prog 3 #[.string (str lang), .string (str s)] w fun e w' => e = .returned (.bool true) ∧ Below w.heap.size w w' := by
  have HAw := Lib.hid (awake9_any w hS)
  have z1 : (str lang).size = lang.length := rfl
  have z2 : (str s).size = s.length := rfl
  by_cases g1 : 10 < lang.length
  · have t1 : decide ((10 : Int) < (lang.length : Int)) = true := decide_eq_true (by omega)
    have t1n : decide (10 < lang.length) = true := decide_eq_true g1
    clear g1
    go_enter Tryz.func3, Tryz.ntmps3
    go_wp2_with fail
    refine HAw.out.mono ?_
    rintro e w1 ⟨rfl, k1⟩
    go_wp2
    go_ret
    exact ⟨rfl, k1⟩
  have t1 : decide ((10 : Int) < (lang.length : Int)) = false := decide_eq_false (by omega)
  have t1n : decide (10 < lang.length) = false := decide_eq_false g1
  by_cases g2 : 80 < s.length
  · have t2 : decide ((80 : Int) < (s.length : Int)) = true := decide_eq_true (by omega)
    have t2n : decide (80 < s.length) = true := decide_eq_true g2
    clear g1 g2
    go_enter Tryz.func3, Tryz.ntmps3
    go_wp2_with fail
    refine HAw.out.mono ?_
    rintro e w1 ⟨rfl, k1⟩
    go_wp2
    go_ret
    exact ⟨rfl, k1⟩
  have t2 : decide ((80 : Int) < (s.length : Int)) = false := decide_eq_false (by omega)
  have t2n : decide (80 < s.length) = false := decide_eq_false g2
  have P1 := Lib.hid (fun W (hW : Below w.heap.size w W) => prSkip9_any lang s W (hS.below hW) (by omega) (by omega))
  have P2 := Lib.hid (fun W (hW : Below w.heap.size w W) => prStrip9_any lang s W (hS.below hW) (by omega) (by omega))
  have P3 := Lib.hid (fun W (hW : Below w.heap.size w W) => prInvert9_any lang s W (hS.below hW) (by omega) (by omega))
  have R1 := Lib.hid (fun W => refSkip9_any lang s W (by omega))
  have R2 := Lib.hid (fun W => refStrip9_any lang s W (by omega))
  have R3 := Lib.hid (fun W => refInvert9_any lang s W (by omega))
  obtain ⟨X1, e1⟩ : ∃ X, skipN lang s = X := ⟨_, rfl⟩
  obtain ⟨X2, e2⟩ : ∃ X, stripN lang s = X := ⟨_, rfl⟩
  obtain ⟨X3, e3⟩ : ∃ X, invN lang s = X := ⟨_, rfl⟩
  rw [e1] at P1 R1
  rw [e2] at P2 R2
  rw [e3] at P3 R3
  have q1 : ((X1 : Int) == (X1 : Int)) = true := by simp
  have q2 : ((str X2).toList == (str X2).toList) = true := beq_self_eq_true _
  have q3 : ((str X3).toList == (str X3).toList) = true := beq_self_eq_true _
  clear g1 g2 e1 e2 e3
  go_enter Tryz.func3, Tryz.ntmps3
  go_wp2_with fail
  refine HAw.out.mono ?_
  rintro e w1 ⟨rfl, k1⟩
  go_wp2_with fail
  refine (P1.out _ k1).mono ?_
  rintro e w2 ⟨rfl, k2⟩
  have b2 := below_next k1 k2
  go_wp2_with fail
  refine (R1.out _).mono ?_
  rintro e w3 ⟨rfl, k3⟩
  have b3 := below_next b2 k3
  go_wp2_with fail
  refine (P2.out _ b3).mono ?_
  rintro e w4 ⟨rfl, k4⟩
  have b4 := below_next b3 k4
  go_wp2_with fail
  refine (R2.out _).mono ?_
  rintro e w5 ⟨rfl, k5⟩
  have b5 := below_next b4 k5
  go_wp2_with fail
  refine (P3.out _ b5).mono ?_
  rintro e w6 ⟨rfl, k6⟩
  have b6 := below_next b5 k6
  go_wp2_with fail
  refine (R3.out _).mono ?_
  rintro e w7 ⟨rfl, k7⟩
  have b7 := below_next b6 k7
  go_wp2
  go_ret
  exact ⟨rfl, b7⟩

end Go.Proofs.YtmgofhbdaopapaaGreatDoor
