/-
  The bodies of TokenWords, TokenAlike.
  The bodies of TokenZone, TokenJoined.
  The body of TokenGaps.
-/
import Derived.Test.YtbnchnbblchmnaaDoorPkBD
import Derived.Deep.RegionHeld3
namespace Go.Proofs.YtbnchnbblchmnaaDoor
open Go.RowKit

theorem cast_eq {a b : List WordL} : castW a = castW b ↔ a = b := by
  unfold castW
  constructor
  · intro h
    refine List.map_inj_right (fun x y e => ?_) |>.1 h
    obtain ⟨x1, x2⟩ := x
    obtain ⟨y1, y2⟩ := y
    injection e with e1 e2
    exact Prod.ext e1 (Int.ofNat.inj e2)
  · intro h; rw [h]
theorem idx_fst (l : List (List UInt8)) (k : Nat) : (l.zipIdx k).map Prod.fst = l := by simp
theorem words_eq {s t : List UInt8} : castW (wordsP s) = castW (wordsP t) ↔ textsB s = textsB t := by
  rw [cast_eq]
  unfold wordsP
  constructor
  · intro h
    rw [← idx_fst (textsB s) 0, h, idx_fst]
  · intro h; rw [h]
theorem words_alike (s t : List UInt8) : decide (castW (wordsP s) = castW (wordsP t)) = decide (nSearch s = nSearch t) := by
  rw [decide_eq_decide, words_eq, texts_alike]
theorem joinI_words (s : List UInt8) : joinI (castW (wordsP s)) = nSearch s := by
  rw [search_join]
  unfold joinI castW wordsP
  rw [List.map_map]
  congr 1
  exact idx_fst (textsB s) 0
theorem words_len (s : List UInt8) : (castW (wordsP s)).length = (textsB s).length := by
  rw [cast_len]
  unfold wordsP
  rw [List.length_zipIdx]

set_option maxRecDepth 20000 in
set_option maxHeartbeats 3200000 in
theorem tokenAlike_v (s t : List UInt8) (w : World) (hS : Own10 w) (h1 : s.length ≤ 9223372036854775807) (h2 : t.length ≤ 9223372036854775807) :
    Calls Tryd.prog 7 #[.string (str s), .string (str t)] w fun e w' => e = .returned (.bool true) ∧ Below w.heap.size w w' := by
  have HAw := Lib.hid (awake10_any w hS)
  have z1 : (str s).size = s.length := rfl
  have z2 : (str t).size = t.length := rfl
  by_cases g1 : 40 < s.length
  · have t1 : decide ((40 : Int) < (s.length : Int)) = true := decide_eq_true (by omega)
    have t1n : decide (40 < s.length) = true := decide_eq_true g1
    clear g1
    go_enter Tryd.func7, Tryd.ntmps7
    go_wp2_with fail
    refine HAw.out.mono ?_
    rintro e w1 ⟨rfl, k1⟩
    go_wp2
    go_ret
    exact ⟨rfl, k1⟩
  have t1 : decide ((40 : Int) < (s.length : Int)) = false := decide_eq_false (by omega)
  have t1n : decide (40 < s.length) = false := decide_eq_false g1
  by_cases g2 : 40 < t.length
  · have t2 : decide ((40 : Int) < (t.length : Int)) = true := decide_eq_true (by omega)
    have t2n : decide (40 < t.length) = true := decide_eq_true g2
    clear g1 g2
    go_enter Tryd.func7, Tryd.ntmps7
    go_wp2_with fail
    refine HAw.out.mono ?_
    rintro e w1 ⟨rfl, k1⟩
    go_wp2
    go_ret
    exact ⟨rfl, k1⟩
  have t2 : decide ((40 : Int) < (t.length : Int)) = false := decide_eq_false (by omega)
  have t2n : decide (40 < t.length) = false := decide_eq_false g2
  have R1 := Lib.hid (fun W => refSearch_any s W (by omega))
  have R2 := Lib.hid (fun W => refSearch_any t W (by omega))
  have P1 := Lib.hid (fun W hW => hS.words s W hW (by omega))
  have P2 := Lib.hid (fun W hW => hS.words t W hW (by omega))
  have hln1 : (castW (wordsP s)).length ≤ 10000 := by rw [words_len]; have := texts_len s; omega
  have hln2 : (castW (wordsP t)).length ≤ 10000 := by rw [words_len]; have := texts_len t; omega
  have hal := words_alike s t
  have q1 := strs_beq (nSearch s) (nSearch t)
  rw [← hal] at q1
  obtain ⟨X1, e1⟩ : ∃ X, nSearch s = X := ⟨_, rfl⟩
  obtain ⟨X2, e2⟩ : ∃ X, nSearch t = X := ⟨_, rfl⟩
  obtain ⟨L1, e3⟩ : ∃ X, castW (wordsP s) = X := ⟨_, rfl⟩
  obtain ⟨L2, e4⟩ : ∃ X, castW (wordsP t) = X := ⟨_, rfl⟩
  rw [e1] at R1 q1
  rw [e2] at R2 q1
  rw [e3] at P1 hln1 q1
  rw [e4] at P2 hln2 q1
  obtain ⟨D, e5⟩ : ∃ X, decide (L1 = L2) = X := ⟨_, rfl⟩
  rw [e5] at q1
  have HD := Lib.hid e5
  clear g1 g2 e1 e2 e3 e4 e5 hal
  go_enter Tryd.func7, Tryd.ntmps7
  go_wp2_with fail
  refine HAw.out.mono ?_
  rintro e w1 ⟨rfl, k1⟩
  go_wp2_with fail
  refine (R1.out _).mono ?_
  rintro e w2 ⟨rfl, k2⟩
  have b2 := below_next k1 k2
  go_wp2_with fail
  refine (R2.out _).mono ?_
  rintro e w3 ⟨rfl, k3⟩
  have b3 := below_next b2 k3
  go_wp2_with fail
  refine (P1.out _ b3).mono ?_
  rintro e w4 ⟨A4, n4, c4, rfl, hA4, k4⟩
  have b4 := below_next b3 k4
  have HA4 := Lib.hid hA4
  clear hA4
  go_wp2_with fail
  refine (P2.out _ b4).mono ?_
  rintro e w5 ⟨A5, n5, c5, rfl, hA5, k5⟩
  have b5 := below_next b4 k5
  have HSm := Lib.hid (refSame10_any A4 A5 n4 c4 n5 c5 L1 L2 w5 (HA4.out.up k5) hA5 (by have := HA4.out.len; omega) (by have := hA5.len; omega))
  rw [HD.out] at HSm
  clear hA5
  go_wp2_with fail
  refine HSm.out.mono ?_
  rintro e w6 ⟨rfl, k6⟩
  have b6 := below_next b5 k6
  have qd : (D == D) = true := beq_self_eq_true _
  go_wp2
  go_ret
  exact ⟨rfl, b6⟩

set_option maxRecDepth 20000 in
set_option maxHeartbeats 3200000 in
theorem tokenWords_v (s : List UInt8) (w : World) (hS : Own10 w) (h1 : s.length ≤ 9223372036854775807) :
    Calls Tryd.prog 3 #[.string (str s)] w fun e w' => e = .returned (.bool true) ∧ Below w.heap.size w w' := by
  have HAw := Lib.hid (awake10_any w hS)
  have z1 : (str s).size = s.length := rfl
  by_cases g1 : 80 < s.length
  · have t1 : decide ((80 : Int) < (s.length : Int)) = true := decide_eq_true (by omega)
    have t1n : decide (80 < s.length) = true := decide_eq_true g1
    clear g1
    go_enter Tryd.func3, Tryd.ntmps3
    go_wp2_with fail
    refine HAw.out.mono ?_
    rintro e w1 ⟨rfl, k1⟩
    go_wp2
    go_ret
    exact ⟨rfl, k1⟩
  have t1 : decide ((80 : Int) < (s.length : Int)) = false := decide_eq_false (by omega)
  have t1n : decide (80 < s.length) = false := decide_eq_false g1
  have P1 := Lib.hid (fun W hW => hS.words s W hW (by omega))
  have P2 := Lib.hid (fun W hW => hS.texts s W hW (by omega))
  have R1 := Lib.hid (fun W => refWords10_any s W (by omega))
  have R2 := Lib.hid (fun W => refTexts10_any s W (by omega))
  have R3 := Lib.hid (fun W => refSearch_any s W (by omega))
  have hln1 : (castW (wordsP s)).length ≤ 10000 := by rw [words_len]; have := texts_len s; omega
  have hln2 : (textsB s).length ≤ 10000 := by have := texts_len s; omega
  have hjl : (joinI (castW (wordsP s))).length ≤ 10000000 := by rw [joinI_words]; have := nSearch_len s; omega
  have hj := joinI_words s
  have P3 := Lib.hid (fun A n c W hW hA hn => hS.join A n c (castW (wordsP s)) W hW hA hn hjl)
  rw [hj] at P3
  obtain ⟨X, e1⟩ : ∃ X, nSearch s = X := ⟨_, rfl⟩
  obtain ⟨L, e2⟩ : ∃ X, castW (wordsP s) = X := ⟨_, rfl⟩
  obtain ⟨T, e3⟩ : ∃ X, textsB s = X := ⟨_, rfl⟩
  rw [e1] at P3 R3
  rw [e2] at P1 R1 P3 hln1
  rw [e3] at P2 R2 hln2
  have q1 : ((str X).toList == (str X).toList) = true := beq_self_eq_true _
  clear g1 e1 e2 e3 hj hjl
  go_enter Tryd.func3, Tryd.ntmps3
  go_wp2_with fail
  refine HAw.out.mono ?_
  rintro e w1 ⟨rfl, k1⟩
  go_wp2_with fail
  refine (P1.out _ k1).mono ?_
  rintro e w2 ⟨A2, n2, c2, rfl, hA2, k2⟩
  have b2 := below_next k1 k2
  have HA2 := Lib.hid hA2
  clear hA2
  go_wp2_with fail
  refine (R1.out _).mono ?_
  rintro e w3 ⟨A3, n3, c3, rfl, hA3, k3⟩
  have b3 := below_next b2 k3
  have HS1 := Lib.hid (refSame10_any A2 A3 n2 c2 n3 c3 L L w3 (HA2.out.up k3) hA3 (by have := HA2.out.len; omega) (by have := hA3.len; omega))
  rw [decide_eq_true rfl] at HS1
  have HA3 := Lib.hid (HA2.out.up k3)
  clear hA3
  go_wp2_with fail
  refine HS1.out.mono ?_
  rintro e w4 ⟨rfl, k4⟩
  have b4 := below_next b3 k4
  have HA4 := Lib.hid (HA3.out.up k4)
  go_wp2_with fail
  refine (P2.out _ b4).mono ?_
  rintro e w5 ⟨A5, n5, c5, rfl, hA5, k5⟩
  have b5 := below_next b4 k5
  have HA5 := Lib.hid (HA4.out.up k5)
  have HT5 := Lib.hid hA5
  clear hA5
  go_wp2_with fail
  refine (R2.out _).mono ?_
  rintro e w6 ⟨A6, n6, c6, rfl, hA6, k6⟩
  have b6 := below_next b5 k6
  have HA6 := Lib.hid (HA5.out.up k6)
  have HS2 := Lib.hid (refSameTexts10_any A5 A6 n5 c5 n6 c6 T T w6 (HT5.out.up k6) hA6 (by have := HT5.out.len; omega) (by have := hA6.len; omega))
  rw [decide_eq_true rfl] at HS2
  clear hA6
  go_wp2_with fail
  refine HS2.out.mono ?_
  rintro e w7 ⟨rfl, k7⟩
  have b7 := below_next b6 k7
  have HA7 := Lib.hid (HA6.out.up k7)
  go_wp2_with fail
  refine (P3.out _ _ _ _ b7 HA7.out (by have := HA7.out.len; omega)).mono ?_
  rintro e w8 ⟨rfl, k8⟩
  have b8 := below_next b7 k8
  go_wp2_with fail
  refine (R3.out _).mono ?_
  rintro e w9 ⟨rfl, k9⟩
  have b9 := below_next b8 k9
  go_wp2
  go_ret
  exact ⟨rfl, b9⟩

end Go.Proofs.YtbnchnbblchmnaaDoor

namespace Go.Proofs.YtbnchnbblchmnaaDoor
open Go.RowKit

set_option maxRecDepth 20000 in
set_option maxHeartbeats 3200000 in
theorem few10_any (A : Option Addr) (n c : Nat) (xs : List (List UInt8)) (w : World) (h : Arr sv w w.heap.size (.slice A n c) xs) (hn : n ≤ 9223372036854775807) (hmax : ∀ x ∈ xs, x.length ≤ 9223372036854775807) :
    Calls Tryd.prog 17 #[.slice A n c] w fun e w' => (∃ b, e = .returned (.bool b) ∧ (b = true → (∀ x ∈ xs, x.length ≤ 30) ∧ n ≤ 6)) ∧ w' = w := by
  have HL := Lib.hid h.len
  have HMx := Lib.hid hmax
  clear hmax
  go_enter Tryd.func17, Tryd.ntmps17
  go_wp2
  go_loopw [6] (fun i wr => ∃ k : Nat, k ≤ n ∧ i = .int .i64 (k : Int) ∧ Hid (∀ x ∈ xs.take k, x.length ≤ 30) ∧ wr = w) (fun i _ => n - (intOf i).toNat)
  case atStart => exact ⟨0, by omega, rfl, Lib.hid (by simp), rfl⟩
  case round =>
    obtain ⟨k, hk, rfl, HK, rfl⟩ := hrel
    by_cases hlt : k < n
    · have i1 : decide ((k : Int) < (n : Int)) = true := by simp; omega
      obtain ⟨b0, o0, rfl, hB0, hc0⟩ := h.some_ (by omega)
      obtain ⟨x, hx⟩ : ∃ a, xs[k]? = some a := ⟨_, List.getElem?_eq_getElem (by have := HL.out; omega)⟩
      have d0 : wr.cell? ⟨b0, o0 + k, none⟩ = some (.string (str x)) := hc0 k x hx
      have kz : (k : Int) < (n : Int) := by omega
      have hsz : (str x).size = x.length := rfl
      have hxm := HMx.out x (List.mem_of_getElem? hx)
      by_cases h30 : 30 < x.length
      · have t2 : decide (30 < (x.length : Int)) = true := by simp; omega
        clear hc0 hx
        go_wp2
        go_ret
        exact ⟨⟨_, rfl, fun e => by cases e⟩, rfl⟩
      · have t2 : decide (30 < (x.length : Int)) = false := by simp; omega
        have HK2 : Hid (∀ y ∈ xs.take (k + 1), y.length ≤ 30) := Lib.hid (by
          intro y hy
          rw [take_next hx] at hy
          rcases List.mem_append.1 hy with hy | hy
          · exact HK.out y hy
          · rw [List.mem_singleton.1 hy]; omega)
        clear hc0 hx
        go_wp2
        go_roundw
        case rel => exact ⟨k + 1, by omega, by go_num, HK2, trivial⟩
        case measure => simp [intOf]; omega
    · obtain rfl : k = n := by omega
      have HA : Hid (∀ x ∈ xs, x.length ≤ 30) := Lib.hid (by have := HK.out; rwa [List.take_of_length_le (by rw [HL.out]; omega)] at this)
      go_wp2
      go_ret
      exact ⟨⟨_, rfl, fun e => ⟨HA.out, by have := of_decide_eq_true e; omega⟩⟩, rfl⟩

set_option maxRecDepth 20000 in
set_option maxHeartbeats 3200000 in
theorem tokenZone_v (A : Option Addr) (n c : Nat) (xs : List (List UInt8)) (g : Int) (w : World) (hS : Own10 w) (h : Arr sv w w.heap.size (.slice A n c) xs) (hn : n ≤ 9223372036854775807) (hmax : ∀ x ∈ xs, x.length ≤ 9223372036854775807) :
    Calls Tryd.prog 4 #[.slice A n c, .int .i64 g] w fun e w' => e = .returned (.bool true) ∧ Below w.heap.size w w' := by
  have HAw := Lib.hid (awake10_any w hS)
  have HF := Lib.hid (fun W hW => few10_any A n c xs W (h.up hW) hn hmax)
  have HA := Lib.hid (fun W hW => Arr.up (w := W) h hW)
  clear hmax
  go_enter Tryd.func4, Tryd.ntmps4
  go_wp2_with fail
  refine HAw.out.mono ?_
  rintro e w1 ⟨rfl, k1⟩
  go_wp2_with fail
  refine (HF.out _ k1).mono ?_
  rintro e _ ⟨⟨b, rfl, hb⟩, rfl⟩
  cases b with
  | false =>
    go_wp2
    go_ret
    exact ⟨rfl, k1⟩
  | true =>
    obtain ⟨h30, h6⟩ := hb rfl
    have HL := Lib.hid h.len
    by_cases hg : g < 0 ∨ 1000 < g
    · have HP := Lib.hid (fun W hW hA => hS.zoneBad A n c xs g W hW hA hg)
      have HR := Lib.hid (fun v W => refZone10_bad v g W hg)
      have HO := Lib.hid (fun B c' W hW (hA : SArr 2 wv W W.heap.size (.slice B 0 c') []) => hS.ordered B 0 c' [] W hW hA (by omega) ⟨List.Pairwise.nil, fun w hw => by cases hw⟩)
      clear h30 hb
      go_wp2_with fail
      refine (HP.out _ k1 (HA.out _ k1)).mono ?_
      rintro e w2 ⟨A2, c2, rfl, hA2, k2⟩
      have b2 := below_next k1 k2
      have HA2 := Lib.hid hA2
      clear hA2
      go_wp2_with fail
      refine (HR.out _ _).mono ?_
      rintro e _ ⟨rfl, rfl⟩
      have HSm := Lib.hid (refSame10_any A2 none 0 c2 0 0 [] [] _ HA2.out (SArr.nil_ _ _) (by omega) (by omega))
      rw [decide_eq_true rfl] at HSm
      go_wp2_with fail
      refine HSm.out.mono ?_
      rintro e w4 ⟨rfl, k4⟩
      have b4 := below_next b2 k4
      have HA4 := Lib.hid (HA2.out.up k4)
      go_wp2_with fail
      refine (HO.out _ _ _ b4 HA4.out).mono ?_
      rintro e w5 ⟨rfl, k5⟩
      have b5 := below_next b4 k5
      go_wp2
      go_ret
      exact ⟨rfl, b5⟩
    · obtain ⟨G, hG⟩ : ∃ G : Nat, g = (G : Int) := ⟨g.toNat, by omega⟩
      subst hG
      have hG : G ≤ 1000 := by omega
      have HP := Lib.hid (fun W hW hA => hS.zone A n c xs G W hW hA h6 h30 hG)
      have HR := Lib.hid (fun W hA => refZone10_any A n c xs G W hA (by omega) (fun x hx => by have := h30 x hx; omega) hG)
      have hzl : (castW (zoneP G xs)).length ≤ 1000000 := by
        rw [cast_len]
        have h1 := (zone_bound G 1441 xs fun s hs => by have := texts_len s; have := h30 s hs; omega).2
        have h2 := HL.out
        have h3 := Nat.mul_le_mul (show xs.length ≤ 6 by omega) (Nat.le_refl 1441)
        omega
      have HO := Lib.hid (fun B m c' W hW hA (hm : m ≤ 10000000) => hS.ordered B m c' (zoneP G xs) W hW hA hm (zone_ord _ _))
      obtain ⟨Z, hZ⟩ : ∃ Z, castW (zoneP G xs) = Z := ⟨_, rfl⟩
      rw [hZ] at HP HR HO hzl
      clear h30 hb hg hZ
      go_wp2_with fail
      refine (HP.out _ k1 (HA.out _ k1)).mono ?_
      rintro e w2 ⟨A2, n2, c2, rfl, hA2, k2⟩
      have b2 := below_next k1 k2
      have HA2 := Lib.hid hA2
      clear hA2
      go_wp2_with fail
      refine (HR.out _ (HA.out _ b2)).mono ?_
      rintro e w3 ⟨A3, n3, c3, rfl, hA3, k3⟩
      have b3 := below_next b2 k3
      have HA3 := Lib.hid (HA2.out.up k3)
      have hn2 : n2 ≤ 1000000 := by have := HA2.out.len; omega
      have HSm := Lib.hid (refSame10_any A2 A3 n2 c2 n3 c3 Z Z w3 HA3.out hA3 (by omega) (by have := hA3.len; omega))
      rw [decide_eq_true rfl] at HSm
      clear hA3
      go_wp2_with fail
      refine HSm.out.mono ?_
      rintro e w4 ⟨rfl, k4⟩
      have b4 := below_next b3 k4
      have HA4 := Lib.hid (HA3.out.up k4)
      go_wp2_with fail
      refine (HO.out _ _ _ _ b4 HA4.out (by omega)).mono ?_
      rintro e w5 ⟨rfl, k5⟩
      have b5 := below_next b4 k5
      go_wp2
      go_ret
      exact ⟨rfl, b5⟩

theorem decEnd_tuple {W w' : World} {r : Option (List Nat)} {e : Ending} (h : DecEnd W r e w') : ∃ u, e = .returned (.tuple #[u, .bool r.isSome]) := by
  cases r with
  | none => exact ⟨_, h⟩
  | some l => obtain ⟨v, h1, _⟩ := h; exact ⟨v, h1⟩
theorem joinedB_len (l : List (List UInt8)) : (∀ s ∈ l, s.length ≤ 30) → (joinedB l).length ≤ l.length * 31 := by
  refine list_snoc (fun l => (∀ s ∈ l, s.length ≤ 30) → (joinedB l).length ≤ l.length * 31) (fun _ => Nat.zero_le _) (fun l s ih h => ?_) l
  have h1 := ih fun t ht => h t (List.mem_append_left _ ht)
  have h2 := h s (List.mem_append_right _ (List.mem_singleton.2 rfl))
  rw [joined_snoc, List.length_append, List.length_append, List.length_cons, List.length_singleton]
  omega

set_option maxRecDepth 20000 in
set_option maxHeartbeats 3200000 in
theorem tokenJoined_v (A : Option Addr) (n c : Nat) (xs : List (List UInt8)) (w : World) (hS : Own10 w) (h : Arr sv w w.heap.size (.slice A n c) xs) (hn : n ≤ 9223372036854775807) (hmax : ∀ x ∈ xs, x.length ≤ 9223372036854775807) :
    Calls Tryd.prog 5 #[.slice A n c] w fun e w' => e = .returned (.bool true) ∧ Below w.heap.size w w' := by
  have HAw := Lib.hid (awake10_any w hS)
  have HF := Lib.hid (fun W hW => few10_any A n c xs W (h.up hW) hn hmax)
  have HA := Lib.hid (fun W hW => Arr.up (w := W) h hW)
  have HL := Lib.hid h.len
  clear hmax
  go_enter Tryd.func5, Tryd.ntmps5
  go_wp2_with fail
  refine HAw.out.mono ?_
  rintro e w1 ⟨rfl, k1⟩
  go_wp2_with fail
  refine (HF.out _ k1).mono ?_
  rintro e _ ⟨⟨b, rfl, hb⟩, rfl⟩
  cases b with
  | false =>
    go_wp2
    go_ret
    exact ⟨rfl, k1⟩
  | true =>
    obtain ⟨h30, h6⟩ := hb rfl
    have H30 := Lib.hid h30
    have HJl : Hid (∀ k, k ≤ n → (joinedB (xs.take k)).length ≤ 186) := Lib.hid (fun k hk => by
      have h1 := joinedB_len (xs.take k) fun s hs => h30 s (List.mem_of_mem_take hs)
      have h2 : (xs.take k).length ≤ 6 := by rw [List.length_take]; omega
      omega)
    clear h30 hb
    go_wp2
    go_loopw [3, 16] (fun v i wr => ∃ (k : Nat) (O : List UInt8), k ≤ n ∧ i = .int .i64 (k : Int) ∧ v = .string (str O) ∧ Hid (joinedB (xs.take k) = O) ∧ Hid (∀ x ∈ xs.take k, (decR x).isSome = true) ∧ Below w.heap.size w wr) (fun _ i _ => n - (intOf i).toNat)
    case atStart => exact ⟨0, [], by omega, rfl, rfl, Lib.hid rfl, Lib.hid (by simp), k1⟩
    case round =>
      obtain ⟨k, O, hk, rfl, rfl, HO, HK, hb⟩ := hrel
      by_cases hlt : k < n
      · have i1 : decide ((k : Int) < (n : Int)) = true := by simp; omega
        obtain ⟨b0, o0, rfl, hB0, hc0⟩ := h.some_ (by omega)
        obtain ⟨x, hx⟩ : ∃ a, xs[k]? = some a := ⟨_, List.getElem?_eq_getElem (by have := HL.out; omega)⟩
        have d0 : wr.cell? ⟨b0, o0 + k, none⟩ = some (.string (str x)) := (hb.cell (p := ⟨b0, o0 + k, none⟩) hB0).trans (hc0 k x hx)
        have kz : (k : Int) < (n : Int) := by omega
        have hxl := H30.out x (List.mem_of_getElem? hx)
        have HD := Lib.hid (fun W => refDecode_any x W (by omega))
        have HN : Hid (joinedB (xs.take (k + 1)) = O ++ 32 :: x) := Lib.hid (by rw [take_next hx, joined_snoc, HO.out])
        have hOl := HJl.out k hk
        rw [HO.out] at hOl
        cases hr : (decR x).isSome with
        | false =>
          have HR := Lib.hid hr
          clear hc0 hx hr
          go_wp2_with fail
          refine (HD.out _).mono ?_
          rintro e w2 ⟨h2, k2⟩
          obtain ⟨u, rfl⟩ := decEnd_tuple h2
          rw [HR.out]
          have b2 := below_next hb k2
          clear h2
          go_wp2
          go_ret
          exact ⟨rfl, b2⟩
        | true =>
          have HR := Lib.hid hr
          have HK2 : Hid (∀ y ∈ xs.take (k + 1), (decR y).isSome = true) := Lib.hid (by
            intro y hy
            rw [take_next hx] at hy
            rcases List.mem_append.1 hy with hy | hy
            · exact HK.out y hy
            · rw [List.mem_singleton.1 hy]; exact hr)
          have hadd1 : ∀ W : World, (Op.stringOp .add ⟨#[32]⟩ (str x)).run Tryd.prog W = .ok (.string (str (32 :: x))) W := fun W => add_str [32] x (by rw [List.length_singleton]; omega)
          have hadd2 : ∀ W : World, (Op.stringOp .add (str O) (str (32 :: x))).run Tryd.prog W = .ok (.string (str (O ++ 32 :: x))) W := fun W => add_str O (32 :: x) (by rw [List.length_cons]; omega)
          clear hc0 hx hr
          go_wp2_with fail
          refine (HD.out _).mono ?_
          rintro e w2 ⟨h2, k2⟩
          obtain ⟨u, rfl⟩ := decEnd_tuple h2
          rw [HR.out]
          have b2 := below_next hb k2
          have d1 : w2.cell? ⟨b0, o0 + k, none⟩ = some (.string (str x)) := (k2.cell (p := ⟨b0, o0 + k, none⟩) (by have := hb.size; show b0 < _; omega)).trans d0
          clear h2
          go_wp2
          go_roundw
          case rel => exact ⟨k + 1, O ++ 32 :: x, by omega, by go_num, rfl, HN, HK2, b2⟩
          case measure => simp [intOf]; omega
      · obtain rfl : k = n := by omega
        have i1 : decide ((k : Int) < (k : Int)) = false := by simp
        have i1n : decide (k < k) = false := by simp
        have hJ := HO.out
        have hd := HK.out
        rw [List.take_of_length_le (by rw [HL.out]; exact Nat.le_refl _)] at hJ hd
        have hOl := HJl.out k (Nat.le_refl _)
        rw [HO.out] at hOl
        have hZ := tok_joined hd
        rw [hJ] at hZ
        have HP := Lib.hid (fun W hW hA => hS.zone A k c xs 0 W hW hA h6 H30.out (by omega))
        have HW := Lib.hid (fun W hW => hS.words O W hW (by omega))
        rw [hZ] at HP
        have hzl : (castW (wordsP O)).length ≤ 1000000 := by rw [words_len]; have := texts_len O; omega
        obtain ⟨Z, hZ2⟩ : ∃ Z, castW (wordsP O) = Z := ⟨_, rfl⟩
        rw [hZ2] at HP HW hzl
        obtain ⟨w3, hw3⟩ : ∃ y : World, y = wr := ⟨_, rfl⟩
        subst hw3
        clear hJ hd hZ hZ2
        go_wp2_with fail
        refine (HP.out _ hb (HA.out _ hb)).mono ?_
        rintro e w4 ⟨A4, n4, c4, rfl, hA4, k4⟩
        have b4 := below_next hb k4
        have HA4 := Lib.hid hA4
        clear hA4
        go_wp2_with fail
        refine (HW.out _ b4).mono ?_
        rintro e w5 ⟨A5, n5, c5, rfl, hA5, k5⟩
        have b5 := below_next b4 k5
        have HSm := Lib.hid (refSame10_any A4 A5 n4 c4 n5 c5 Z Z w5 (HA4.out.up k5) hA5 (by have := HA4.out.len; omega) (by have := hA5.len; omega))
        rw [decide_eq_true rfl] at HSm
        clear hA5
        go_wp2_with fail
        refine HSm.out.mono ?_
        rintro e w6 ⟨rfl, k6⟩
        have b6 := below_next b5 k6
        go_wp2
        go_ret
        exact ⟨rfl, b6⟩

end Go.Proofs.YtbnchnbblchmnaaDoor

namespace Go.Proofs.YtbnchnbblchmnaaDoor
open Go.RowKit

/-- What TokenGaps asks besides. -/
structure Own10P (w0 : World) : Prop where
  phrase : ∀ (A A' : Option Addr) (n c n' c' : Nat) (l : List WordI) (ws : List (List UInt8)) (W : World), Below w0.heap.size w0 W → SArr 2 wv W W.heap.size (.slice A n c) l → Arr sv W W.heap.size (.slice A' n' c') ws → n ≤ 10000 → n' ≤ 10000 → (∀ x ∈ l, x.1.length ≤ 10000 ∧ -9223372036854775808 ≤ x.2 ∧ x.2 ≤ 9223372036854775807) → (∀ x ∈ ws, x.length ≤ 9223372036854775807) →
    Calls Tryd.prog 22 #[.slice A n c, .slice A' n' c'] W fun e w' => ∃ A n c, e = .returned (.slice A n c) ∧ Arr iv w' w'.heap.size (.slice A n c) (phraseI l ws) ∧ Below W.heap.size W w'
theorem Own10.up {a b : World} (h : Own10 a) (k : Below a.heap.size a b) : Own10 b where
  words := fun s W hW => h.words s W (below_next k hW)
  texts := fun s W hW => h.texts s W (below_next k hW)
  zone := fun A n c l G W hW => h.zone A n c l G W (below_next k hW)
  zoneBad := fun A n c l G W hW => h.zoneBad A n c l G W (below_next k hW)
  ordered := fun A n c l W hW => h.ordered A n c l W (below_next k hW)
  join := fun A n c l W hW => h.join A n c l W (below_next k hW)
theorem Own10P.up {a b : World} (h : Own10P a) (k : Below a.heap.size a b) : Own10P b where
  phrase := fun A A' n c n' c' l ws W hW => h.phrase A A' n c n' c' l ws W (below_next k hW)

theorem zone_from (gap : Nat) (l : List (List UInt8)) : ∀ y ∈ zoneP gap l, ∃ s ∈ l, y.1 ∈ textsB s := by
  refine list_snoc (fun l => ∀ y ∈ zoneP gap l, ∃ s ∈ l, y.1 ∈ textsB s) (fun y hy => by cases hy) (fun l s ih y hy => ?_) l
  rw [zone_snoc] at hy
  rcases List.mem_append.1 hy with h | h
  · obtain ⟨t, ht, h3⟩ := ih y h
    exact ⟨t, List.mem_append_left _ ht, h3⟩
  · exact ⟨s, List.mem_append_right _ (List.mem_singleton.2 rfl), (idx_mem h).2.2.2⟩
theorem join_mem_len (c : UInt8) : ∀ (l : List (List UInt8)) (x : List UInt8), x ∈ l → x.length ≤ (joinG c l).length
  | [], x, h => by cases h
  | [y], x, h => by rw [List.mem_singleton.1 h]; simp [joinG]
  | y :: z :: l, x, h => by
    rw [joinG, List.length_append, List.length_cons]
    rcases List.mem_cons.1 h with rfl | h
    · omega
    · have := join_mem_len c (z :: l) x h
      omega
theorem text_len {s x : List UInt8} (h : x ∈ textsB s) : x.length ≤ 48 * s.length := by
  have h1 := join_mem_len 32 _ x h
  rw [← search_join] at h1
  have h2 := nSearch_len s
  omega
/-- A word of a zone or of a string, within the bounds. -/
def OkW (l : List WordI) : Prop := ∀ x ∈ l, x.1.length ≤ 10000 ∧ -9223372036854775808 ≤ x.2 ∧ x.2 ≤ 9223372036854775807
theorem zone_low {gap : Nat} {l : List (List UInt8)} (hg : gap ≤ 1000) (hl : l.length ≤ 6) (h : ∀ s ∈ l, s.length ≤ 30) : ∀ y ∈ zoneP gap l, y.2 ≤ 1000000 := by
  intro y hy
  have h1 := begin_above (gap := gap) (zone_ord gap l).1 hy
  have h2 := (zone_bound gap 1441 l fun s hs => by have := texts_len s; have := h s hs; omega).1
  have h3 := Nat.mul_le_mul hl (show 1441 + 1 + gap ≤ 3000 by omega)
  omega
theorem zone_ok {gap : Nat} {l : List (List UInt8)} (hg : gap ≤ 1000) (hl : l.length ≤ 6) (h : ∀ s ∈ l, s.length ≤ 30) : OkW (castW (zoneP gap l)) := by
  intro z hz
  unfold castW at hz
  obtain ⟨y, hy, rfl⟩ := List.mem_map.1 hz
  have h1 := zone_low hg hl h y hy
  obtain ⟨s, hs, h2⟩ := zone_from gap l y hy
  have h3 := text_len h2
  have h4 := h s hs
  refine ⟨?_, ?_, ?_⟩
  · show y.1.length ≤ 10000
    omega
  · show -9223372036854775808 ≤ (y.2 : Int)
    omega
  · show (y.2 : Int) ≤ 9223372036854775807
    omega
theorem words_low {s : List UInt8} (h : s.length ≤ 30) : ∀ y ∈ wordsP s, y.2 ≤ 1000000 := by
  intro y hy
  have h1 := (idx_mem (k := 0) hy).2.1
  have h2 := texts_len s
  omega
theorem wordsT_ok {s : List UInt8} (h : s.length ≤ 30) : OkW (castW (wordsP s)) := by
  intro z hz
  unfold castW at hz
  obtain ⟨y, hy, rfl⟩ := List.mem_map.1 hz
  have h1 := words_low h y hy
  have h2 := text_len (idx_mem (k := 0) hy).2.2.2
  refine ⟨?_, ?_, ?_⟩
  · show y.1.length ≤ 10000
    omega
  · show -9223372036854775808 ≤ (y.2 : Int)
    omega
  · show (y.2 : Int) ≤ 9223372036854775807
    omega
theorem gaps_fact {gap : Nat} {l : List (List UInt8)} (h0 : 0 < gap) (hg : gap ≤ 1000) (hl : l.length ≤ 6) (h : ∀ s ∈ l, s.length ≤ 30) (a b : List UInt8) :
    phraseI (castW (zoneP gap l)) [a, b] ≠ [] ↔ ∃ s ∈ l, phraseI (castW (wordsP s)) [a, b] ≠ [] := by
  rw [phrase_two (zone_low hg hl h), tok_gaps h0]
  constructor
  · rintro ⟨s, hs, h2⟩
    exact ⟨s, hs, (phrase_two (words_low (h s hs)) a b).2 h2⟩
  · rintro ⟨s, hs, h2⟩
    exact ⟨s, hs, (phrase_two (words_low (h s hs)) a b).1 h2⟩
theorem some_len {α : Type} {l : List α} {n : Nat} (h : l.length = n) : decide (0 < n) = true ↔ l ≠ [] := by
  rw [decide_eq_true_iff, ← h, List.length_pos_iff]

set_option maxRecDepth 20000 in
set_option maxHeartbeats 6400000 in
theorem tokenGaps_v (A : Option Addr) (n c : Nat) (xs : List (List UInt8)) (g : Nat) (a b : List UInt8) (w0 : World) (hS0 : Own10 w0) (hF0 : Own10P w0) (h0 : Arr sv w0 w0.heap.size (.slice A n c) xs) (hn : n ≤ 9223372036854775807) (hmax : ∀ x ∈ xs, x.length ≤ 9223372036854775807) (hg : g < 256) (hab : ∀ x ∈ [a, b], x.length ≤ 9223372036854775807) :
    Calls Tryd.prog 6 #[.slice A n c, .int .u8 (g : Int), .agg #[.string (str a), .string (str b)]] w0 fun e w' => e = .returned (.bool true) ∧ Below w0.heap.size w0 w' := by
  obtain ⟨w, hw⟩ : ∃ w, w0.alloc (.cells #[.string (str a), .string (str b)] 41) = w := ⟨_, rfl⟩
  have k0 : Below w0.heap.size w0 w := by rw [← hw]; exact (Below.refl _ _).alloc (Nat.le_refl _) _
  have hS := hS0.up k0
  have hF := hF0.up k0
  have h := h0.up k0
  have hws : w.heap.size = w0.heap.size + 1 := by rw [← hw]; simp
  obtain ⟨q, hq⟩ : ∃ q, w0.heap.size = q := ⟨_, rfl⟩
  have hAB : Arr sv w w.heap.size (.slice (some ⟨q, 0, none⟩) 2 2) [a, b] := by
    rw [← hw, ← hq]
    exact arr_made w0 41 [a, b] 2 _ rfl rfl
  have hqw : q < w.heap.size := by omega
  have HAw := Lib.hid (awake10_any w hS)
  have HF := Lib.hid (fun W hW => few10_any A n c xs W (h.up hW) hn hmax)
  have HA := Lib.hid (fun W hW => Arr.up (w := W) h hW)
  have HB := Lib.hid (fun W hW => Arr.up (w := W) hAB hW)
  have HL := Lib.hid h.len
  have HK0 := Lib.hid k0
  clear hmax hAB k0 hS0 hF0 h0
  go_enter Tryd.func6, Tryd.ntmps6
  go_wp2_with fail
  refine HAw.out.mono ?_
  rintro e w1 ⟨rfl, k1⟩
  go_wp2_with fail
  refine (HF.out _ k1).mono ?_
  rintro e _ ⟨⟨f, rfl, hb⟩, rfl⟩
  cases f with
  | false =>
    go_wp2
    go_ret
    exact ⟨rfl, below_next HK0.out k1⟩
  | true =>
    obtain ⟨h30, h6⟩ := hb rfl
    have hxl : xs.length ≤ 6 := by rw [HL.out]; exact h6
    have hc1 : ((1 + g : Nat) : Int) = 1 + (g : Int) := by omega
    have HP0 := fun W hW hA => hS.zone A n c xs (1 + g) W hW hA h6 h30 (by omega)
    rw [hc1] at HP0
    have HP := Lib.hid HP0
    have hzk := zone_ok (gap := 1 + g) (by omega) hxl h30
    have hzl : (castW (zoneP (1 + g) xs)).length ≤ 10000 := by
      rw [cast_len]
      have h1 := (zone_bound (1 + g) 1441 xs fun s hs => by have := texts_len s; have := h30 s hs; omega).2
      have h3 := Nat.mul_le_mul hxl (Nat.le_refl 1441)
      omega
    have HGf := Lib.hid (gaps_fact (gap := 1 + g) (by omega) (by omega) hxl h30 a b)
    have H30 := Lib.hid h30
    have wz : IntKind.i64.wrap (g : Int) = (g : Int) := wraps_i64 _ (by omega) (by omega)
    have wz2 : IntKind.i64.wrap (1 + (g : Int)) = 1 + (g : Int) := wraps_i64 _ (by omega) (by omega)
    have HPh := Lib.hid (fun B m c' W hW hA hB hm => hF.phrase B (some ⟨q, 0, none⟩) m c' 2 2 (castW (zoneP (1 + g) xs)) [a, b] W hW hA hB hm (by omega) hzk hab)
    obtain ⟨Z, hZ⟩ : ∃ Z, castW (zoneP (1 + g) xs) = Z := ⟨_, rfl⟩
    rw [hZ] at HP HGf hzl HPh
    clear HP0 hzk hZ h30 hb hc1 hxl
    have hgg := hg
    have HAb := Lib.hid hab
    clear hab
    go_wp2_with fail
    refine (HP.out _ k1 (HA.out _ k1)).mono ?_
    rintro e w2 ⟨A2, n2, c2, rfl, hA2, k2⟩
    have b2 := below_next k1 k2
    have HA2 := Lib.hid hA2
    clear hA2
    go_wp2_with fail
    refine (HPh.out _ _ _ _ b2 HA2.out (HB.out _ b2) (by have := HA2.out.len; omega)).mono ?_
    rintro e w3 ⟨A3, n3, c3, rfl, hA3, k3⟩
    have b3 := below_next b2 k3
    have HFd := Lib.hid (some_len hA3.len)
    obtain ⟨F, hFe⟩ : ∃ F, decide (0 < n3) = F := ⟨_, rfl⟩
    rw [hFe] at HFd
    have t3 : decide ((0 : Int) < (n3 : Int)) = F := by
      rw [← hFe, decide_eq_decide]
      omega
    clear hA3
    go_wp2
    go_loopw [10, 34] (fun v i wr => ∃ (k : Nat) (V : Bool), k ≤ n ∧ i = .int .i64 (k : Int) ∧ v = .bool V ∧ Hid (V = true ↔ ∃ s ∈ xs.take k, phraseI (castW (wordsP s)) [a, b] ≠ []) ∧ Below w.heap.size w wr) (fun _ i _ => n - (intOf i).toNat)
    case atStart => exact ⟨0, false, by omega, rfl, rfl, Lib.hid (by simp), b3⟩
    case round =>
      obtain ⟨k, V, hk, rfl, rfl, HV, hb⟩ := hrel
      by_cases hlt : k < n
      · have i1 : decide ((k : Int) < (n : Int)) = true := by simp; omega
        have kz : (k : Int) < (n : Int) := by omega
        obtain ⟨x, hx⟩ : ∃ a, xs[k]? = some a := ⟨_, List.getElem?_eq_getElem (by have := HL.out; omega)⟩
        have HT := Lib.hid (take_next hx)
        cases V with
        | true =>
          have HV2 : Hid (∃ s ∈ xs.take (k + 1), phraseI (castW (wordsP s)) [a, b] ≠ []) := Lib.hid (by
            obtain ⟨s, hs, h9⟩ := HV.out.1 rfl
            exact ⟨s, by rw [HT.out]; exact List.mem_append_left _ hs, h9⟩)
          clear hx
          go_wp2
          go_big_quiet (fail)
          go_wp2
          go_roundw
          case rel => exact ⟨k + 1, true, by omega, by go_num, rfl, Lib.hid ⟨fun _ => HV2.out, fun _ => rfl⟩, by first | exact below_drewN hb _ | exact hb⟩
          case measure => simp [intOf]; omega
        | false =>
          obtain ⟨b0, o0, rfl, hB0, hc0⟩ := h.some_ (by omega)
          have d0 : wr.cell? ⟨b0, o0 + k, none⟩ = some (.string (str x)) := (hb.cell (p := ⟨b0, o0 + k, none⟩) hB0).trans (hc0 k x hx)
          have hx30 := H30.out x (List.mem_of_getElem? hx)
          have HW := Lib.hid (fun W hW => hS.words x W hW (by omega))
          have hwl : (castW (wordsP x)).length ≤ 10000 := by rw [words_len]; have := texts_len x; omega
          have HPx := Lib.hid (fun B m c' W hW hA hB hm => hF.phrase B (some ⟨q, 0, none⟩) m c' 2 2 (castW (wordsP x)) [a, b] W hW hA hB hm (by omega) (wordsT_ok hx30) HAb.out)
          have HV2 : Hid (∀ V2 : Bool, (V2 = true ↔ phraseI (castW (wordsP x)) [a, b] ≠ []) → (V2 = true ↔ ∃ s ∈ xs.take (k + 1), phraseI (castW (wordsP s)) [a, b] ≠ [])) := Lib.hid (fun V2 h2 => by
            rw [h2, HT.out]
            constructor
            · intro h9
              exact ⟨x, List.mem_append_right _ (List.mem_singleton.2 rfl), h9⟩
            · rintro ⟨s, hs, h9⟩
              rcases List.mem_append.1 hs with hs | hs
              · exact absurd (HV.out.2 ⟨s, hs, h9⟩) (by simp)
              · rw [List.mem_singleton.1 hs] at h9
                exact h9)
          obtain ⟨Y, hY⟩ : ∃ Y, castW (wordsP x) = Y := ⟨_, rfl⟩
          rw [hY] at HW HPx hwl HV2
          clear hY hx30
          have hb0 : b0 < w.heap.size := hB0
          go_wp2
          go_region_held3 (fun v => v.cell? ⟨b0, o0 + k, none⟩ = some (.string (str x))) (first | exact d0 | exact d0b | exact d0c)
            (first
              | (go_at_call 9; (with_reducible refine (HW.out _ hb.drew).mono ?_); rintro e w5 ⟨A5, n5, c5, rfl, hA5, k5⟩; have b5 := below_next hb.drew k5; have HA5 := Lib.hid hA5; have hn5 : n5 ≤ 10000 := (by have := hA5.len; omega); have d0b := (b5.cell (p := ⟨b0, o0 + k, none⟩) hb0).trans (hc0 k x hx); clear hA5)
              | (go_at_call 22; (with_reducible refine (HPx.out _ _ _ _ b5 HA5.out (HB.out _ b5) hn5).mono ?_); rintro e w6 ⟨A6, n6, c6, rfl, hA6, k6⟩; have b6 := below_next b5 k6; have d0c := (b6.cell (p := ⟨b0, o0 + k, none⟩) hb0).trans (hc0 k x hx); have HV6 := Lib.hid (HV2.out _ (some_len hA6.len)); clear hA6))
          go_wp2
          go_roundw
          case rel => exact ⟨k + 1, decide (0 < n6), by omega, by go_num, rfl, HV6, b6⟩
          case measure => simp [intOf]; omega
      · obtain rfl : k = n := by omega
        have i1 : decide ((k : Int) < (k : Int)) = false := by simp
        have i1n : decide (k < k) = false := by simp
        have h9 := HV.out
        rw [List.take_of_length_le (by rw [HL.out]; exact Nat.le_refl _), ← HGf.out, ← HFd.out] at h9
        have hVF : V = F := by
          cases V <;> cases F <;> simp_all
        subst hVF
        have qd : (V == V) = true := beq_self_eq_true _
        clear h9 hFe t3
        go_wp2
        go_ret
        exact ⟨rfl, below_next HK0.out hb⟩

end Go.Proofs.YtbnchnbblchmnaaDoor
