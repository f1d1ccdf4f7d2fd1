/-
  The reference's Decompose, encoded, Equal, Strip, Marks.
-/
import Derived.Test.YtpgaebdaakllaaaDoorRefDec
namespace Go.Proofs.YtpgaebdaakllaaaDoor
open Go.RowKit

/-- The characters of an encoded string; none of others. -/
def nL (s : List UInt8) : List Nat := (decR s).getD []
def nD (s : List UInt8) : List UInt8 := encL (dcF (nL s))
def nC (s : List UInt8) : List UInt8 := encL (compF (dcF (nL s)))
def nStrip (s : List UInt8) : List UInt8 := encL ((dcF (nL s)).filter fun c => !isM c)
def nMarks (s : List UInt8) : Nat := ((dcF (nL s)).filter isM).length
def nIs (s : List UInt8) : Bool := (decR s).isSome && decide (nC s = s)
def nEq (a b : List UInt8) : Bool := (decR a).isSome && (decR b).isSome && decide (nD a = nD b)
theorem ok_of_has {c : Nat} (h : hasN c = true) : okC c := by
  rw [← hasN_eq] at h
  have := has_range h
  exact ⟨by omega, has_kind.1 h⟩
theorem has_of_ok {c : Nat} (h : okC c) : hasN c = true := by rw [← hasN_eq]; exact ok_has h
theorem nL_has (s : List UInt8) : ∀ c ∈ nL s, hasN c = true := by
  unfold nL
  cases h : decR s with
  | none => simp
  | some l => exact fun c hc => has_of_ok ((enc_dec h).2 c hc)
theorem nL_len (s : List UInt8) : (nL s).length ≤ s.length := by
  unfold nL
  cases h : decR s with
  | none => simp
  | some l => exact dec_len h
theorem dcF_len (l : List Nat) : (dcF l).length ≤ 2 * l.length := by
  unfold dcF
  rw [List.length_reverse, sort_len, List.length_nil, Nat.add_zero]
  induction l with
  | nil => simp
  | cons c l ih =>
    have := whole_len c
    rw [List.flatMap_cons, List.length_append, List.length_cons]
    omega
theorem dcF_ok (s : List UInt8) : ∀ c ∈ dcF (nL s), okC c := fun c hc => ok_of_has (dcF_has (nL_has s) c hc)

theorem encode_own (base : Nat) (v : Value) (l : List Nat) (w : World) (hown : w.ownsRow base 3 1 v l.length (l.map nv)) (hok : ∀ c ∈ l, okC c) (hl : l.length ≤ 1000000) :
    Calls Tryd.prog 24 #[v] w fun e w' => e = .returned (.tuple #[.string (str (encL l)), .bool true]) ∧ Below w.heap.size w w' := by
  have hA := Arr.of_own hown
  obtain ⟨A, c, rfl⟩ := hA.form
  refine (refEncode_any A _ c _ w hA.int (by omega)).mono ?_
  rintro e w' ⟨h1, h2⟩
  rw [encR_nats hok] at h1
  exact ⟨h1, h2⟩

set_option maxRecDepth 20000 in
set_option maxHeartbeats 1600000 in
theorem refDecompose_any (s : List UInt8) (w : World) (hlen : s.length ≤ 100000) :
    Calls Tryd.prog 12 #[.string (str s)] w fun e w' => e = .returned (.string (str (nD s))) ∧ Below w.heap.size w w' := by
  have HD := Lib.hid (refDecomposed_any s w hlen)
  obtain ⟨R, hR⟩ : ∃ R, nD s = R := ⟨_, rfl⟩
  have HR : Hid (encL (dcF (nL s)) = R) := Lib.hid hR
  have HOK := Lib.hid (dcF_ok s)
  have hl1 := dcF_len (nL s)
  have hl2 := nL_len s
  have HL : Hid ((dcF (nL s)).length ≤ 1000000) := Lib.hid (by omega)
  rw [hR]
  clear hR hl1 hl2
  go_enter Tryd.func12, Tryd.ntmps12
  go_wp2_with fail
  refine HD.out.mono ?_
  rintro e w1 ⟨v, rfl, hown, hb1⟩
  have HE := Lib.hid (encode_own _ v _ w1 hown HOK.out HL.out)
  clear hown
  go_wp2_with fail
  refine HE.out.mono ?_
  rintro e w2 ⟨rfl, hb2⟩
  have e1 := HR.out
  unfold nL at e1
  rw [show encL (dcF ((decR s).getD [])) = R from e1]
  go_wp2
  go_ret
  exact ⟨rfl, below_next hb1 hb2⟩

set_option maxHeartbeats 1600000 in
theorem refEncoded_any (s : List UInt8) (w : World) (hlen : s.length ≤ 100000) :
    Calls Tryd.prog 33 #[.string (str s)] w fun e w' => e = .returned (.bool (decR s).isSome) ∧ Below w.heap.size w w' := by
  have HD := Lib.hid (refDecode_any s w (by omega))
  obtain ⟨R, hR⟩ : ∃ R, (decR s).isSome = R := ⟨_, rfl⟩
  rw [hR]
  have HR := Lib.hid hR
  clear hR
  go_enter Tryd.func33, Tryd.ntmps33
  go_wp2_with fail
  refine HD.out.mono ?_
  rintro e w1 ⟨hd, hb⟩
  obtain ⟨A, n, c, b, rfl, hcase⟩ := hd.form
  have HN : Hid (R = b) := Lib.hid (by
    rw [← HR.out]
    rcases hcase with ⟨h1, l, h2, _⟩ | ⟨h1, h2, _⟩
    · rw [h1, h2]; rfl
    · rw [h1, h2]; rfl)
  clear hd hcase
  go_wp2
  go_ret
  exact ⟨ret_bool HN.out.symm, hb⟩

theorem str_beq (a b : List UInt8) : ((str a).toList == (str b).toList) = decide (a = b) := by
  rw [str_toList, str_toList]
  by_cases h : a = b
  · rw [h, decide_eq_true rfl]; simp
  · rw [decide_eq_false h]; simpa using h

set_option maxRecDepth 20000 in
set_option maxHeartbeats 1600000 in
theorem refEqual_any (s t : List UInt8) (w : World) (hlen : s.length ≤ 100000) (hlen2 : t.length ≤ 100000) :
    Calls Tryd.prog 22 #[.string (str s), .string (str t)] w fun e w' => e = .returned (.bool (nEq s t)) ∧ Below w.heap.size w w' := by
  obtain ⟨R, hR⟩ : ∃ R, nEq s t = R := ⟨_, rfl⟩
  rw [hR]
  unfold nEq at hR
  have HS := Lib.hid (fun W => refEncoded_any s W hlen)
  have HT := Lib.hid (fun W => refEncoded_any t W hlen2)
  have HDS := Lib.hid (fun W => refDecompose_any s W hlen)
  have HDT := Lib.hid (fun W => refDecompose_any t W hlen2)
  cases h1 : (decR s).isSome with
  | false =>
    have HE : Hid (R = false) := Lib.hid (by rw [← hR, h1]; rfl)
    rw [h1] at HS
    clear hR h1
    go_enter Tryd.func22, Tryd.ntmps22
    go_wp2_with fail
    refine (HS.out _).mono ?_
    rintro e w1 ⟨rfl, hb1⟩
    go_wp2
    go_ret
    exact ⟨ret_bool HE.out.symm, hb1⟩
  | true =>
    cases h2 : (decR t).isSome with
    | false =>
      have HE : Hid (R = false) := Lib.hid (by rw [← hR, h2]; simp)
      rw [h1] at HS
      rw [h2] at HT
      clear hR h1 h2
      go_enter Tryd.func22, Tryd.ntmps22
      go_wp2_with fail
      refine (HS.out _).mono ?_
      rintro e w1 ⟨rfl, hb1⟩
      go_wp2_with fail
      refine (HT.out _).mono ?_
      rintro e w2 ⟨rfl, hb2⟩
      go_wp2
      go_ret
      exact ⟨ret_bool HE.out.symm, below_next hb1 hb2⟩
    | true =>
      obtain ⟨x, hx⟩ : ∃ x, nD s = x := ⟨_, rfl⟩
      obtain ⟨y, hy⟩ : ∃ y, nD t = y := ⟨_, rfl⟩
      rw [hx] at HDS
      rw [hy] at HDT
      have HE : Hid (R = decide (x = y)) := Lib.hid (by rw [← hR, h1, h2, hx, hy]; rfl)
      have HQ := str_beq x y
      obtain ⟨z, hz⟩ : ∃ z, decide (x = y) = z := ⟨_, rfl⟩
      rw [hz] at HQ HE
      rw [h1] at HS
      rw [h2] at HT
      clear hR h1 h2 hx hy hz
      go_enter Tryd.func22, Tryd.ntmps22
      go_wp2_with fail
      refine (HS.out _).mono ?_
      rintro e w1 ⟨rfl, hb1⟩
      go_wp2_with fail
      refine (HT.out _).mono ?_
      rintro e w2 ⟨rfl, hb2⟩
      go_wp2_with fail
      refine (HDS.out _).mono ?_
      rintro e w3 ⟨rfl, hb3⟩
      go_wp2_with fail
      refine (HDT.out _).mono ?_
      rintro e w4 ⟨rfl, hb4⟩
      go_wp2
      go_ret
      exact ⟨ret_bool HE.out.symm, below_next (below_next (below_next hb1 hb2) hb3) hb4⟩

theorem isM_zero {c : Nat} : isM c = false ↔ clM c = 0 := by
  unfold isM
  rw [← Bool.not_eq_true, Nat.blt_eq]
  omega
theorem isM_pos {c : Nat} : isM c = true ↔ 0 < clM c := by
  unfold isM
  rw [Nat.blt_eq]
theorem filter_next {p : Nat → Bool} {l : List Nat} {k c : Nat} (h : l[k]? = some c) : (l.take (k + 1)).filter p = (l.take k).filter p ++ if p c = true then [c] else [] := by
  rw [take_next h, List.filter_append]
  by_cases hp : p c = true
  · rw [if_pos hp]; simp [hp]
  · rw [if_neg hp]; simp [hp]

set_option maxRecDepth 20000 in
set_option maxHeartbeats 1600000 in
theorem refMarks_any (s : List UInt8) (w : World) (hlen : s.length ≤ 100000) :
    Calls Tryd.prog 20 #[.string (str s)] w fun e w' => e = .returned (.int .i64 (nMarks s : Int)) ∧ Below w.heap.size w w' := by
  have HD := Lib.hid (refDecomposed_any s w hlen)
  obtain ⟨l, hl⟩ : ∃ l, dcF ((decR s).getD []) = l := ⟨_, rfl⟩
  have hl1 := dcF_len (nL s)
  have hl2 := nL_len s
  have hll : l.length ≤ 200000 := by rw [← hl]; unfold nL at hl1 hl2; omega
  have HN : Hid (nMarks s = (l.filter isM).length) := Lib.hid (by rw [← hl]; rfl)
  rw [hl] at HD
  clear hl hl1 hl2
  go_enter Tryd.func20, Tryd.ntmps20
  go_wp2_with fail
  refine HD.out.mono ?_
  rintro e w1 ⟨v, rfl, hown, hb1⟩
  have hA := Arr.of_own hown
  obtain ⟨n, hn⟩ : ∃ n, l.length = n := ⟨_, rfl⟩
  rw [hn] at hll
  obtain ⟨A, c, rfl⟩ := hA.form
  rw [hn] at hA ⊢
  have HL := Lib.hid hn
  clear hn hown HD
  go_wp2
  go_loopw [4, 5] (fun m i wr => ∃ k m1 q : Nat, k ≤ n ∧ i = .int .i64 (k : Int) ∧ m = .int .i64 (m1 : Int) ∧ Hid (((l.take k).filter isM).length = m1) ∧ m1 ≤ k ∧ wr = w1.drewN q) (fun _ i _ => n - (intOf i).toNat)
  case atStart => exact ⟨0, 0, 0, by omega, rfl, rfl, Lib.hid rfl, by omega, rfl⟩
  case round =>
    obtain ⟨k, m1, q, hk, rfl, rfl, HM, hmk, rfl⟩ := hrel
    by_cases hlt : k < n
    · have i1 : decide ((k : Int) < (n : Int)) = true := by simp; omega
      obtain ⟨b0, o0, rfl, hB0, hc0⟩ := hA.some_ (by omega)
      obtain ⟨x, hx⟩ : ∃ a, l[k]? = some a := ⟨_, List.getElem?_eq_getElem (by have := HL.out; omega)⟩
      have d0 := hc0 k x hx
      simp only [nv] at d0
      have kz : (k : Int) < (n : Int) := by omega
      have HC := refClassM_any x (w1.drewN q)
      have HF := filter_next (p := isM) hx
      obtain ⟨kc, hkc⟩ : ∃ kc, clM x = kc := ⟨_, rfl⟩
      rw [hkc] at HC
      have HC := Lib.hid HC
      by_cases h0 : 0 < kc
      · have t1 : decide (0 < kc) = true := by simpa using h0
        have t1' : decide ((0 : Int) < (kc : Int)) = true := by simp; omega
        have HM2 : Hid (((l.take (k + 1)).filter isM).length = m1 + 1) := Lib.hid (by rw [HF, if_pos (isM_pos.2 (by omega)), List.length_append, HM.out]; rfl)
        clear hc0 hx hkc HF
        go_wp2_with fail
        refine HC.out.mono ?_
        rintro e w2 ⟨rfl, q2, rfl⟩
        go_wp2
        go_roundw
        case rel => exact ⟨k + 1, m1 + 1, _, by omega, by go_num, by go_num, HM2, by omega, rfl⟩
        case measure => simp [intOf]; omega
      · have t1 : decide (0 < kc) = false := by simp; omega
        have t1' : decide ((0 : Int) < (kc : Int)) = false := by simp; omega
        have HM2 : Hid (((l.take (k + 1)).filter isM).length = m1) := Lib.hid (by rw [HF, if_neg (fun h => by have := isM_pos.1 h; omega), List.append_nil, HM.out])
        clear hc0 hx hkc HF
        go_wp2_with fail
        refine HC.out.mono ?_
        rintro e w2 ⟨rfl, q2, rfl⟩
        go_wp2
        go_roundw
        case rel => exact ⟨k + 1, m1, _, by omega, by go_num, rfl, HM2, by omega, rfl⟩
        case measure => simp [intOf]; omega
    · obtain rfl : k = n := by omega
      have HE : Hid (nMarks s = m1) := Lib.hid (by rw [HN.out, ← HM.out, List.take_of_length_le (by rw [HL.out]; omega)])
      go_wp2
      go_ret
      rw [HE.out]
      exact ⟨rfl, below_drewN hb1 _⟩

set_option maxRecDepth 20000 in
set_option maxHeartbeats 1600000 in
theorem refStrip_any (s : List UInt8) (w : World) (hlen : s.length ≤ 100000) :
    Calls Tryd.prog 18 #[.string (str s)] w fun e w' => e = .returned (.string (str (nStrip s))) ∧ Below w.heap.size w w' := by
  have HD := Lib.hid (refDecomposed_any s w hlen)
  obtain ⟨l, hl⟩ : ∃ l, dcF ((decR s).getD []) = l := ⟨_, rfl⟩
  have hl1 := dcF_len (nL s)
  have hl2 := nL_len s
  have hll : l.length ≤ 200000 := by rw [← hl]; unfold nL at hl1 hl2; omega
  have HN : Hid (nStrip s = encL (l.filter fun c => !isM c)) := Lib.hid (by rw [← hl]; rfl)
  have HOK : Hid (∀ c ∈ l, okC c) := Lib.hid (by rw [← hl]; exact dcF_ok s)
  rw [hl] at HD
  clear hl hl1 hl2
  go_enter Tryd.func18, Tryd.ntmps18
  go_wp2_with fail
  refine HD.out.mono ?_
  rintro e w1 ⟨v, rfl, hown, hb1⟩
  have hA := Arr.of_own hown
  obtain ⟨n, hn⟩ : ∃ n, l.length = n := ⟨_, rfl⟩
  rw [hn] at hll
  obtain ⟨A, c, rfl⟩ := hA.form
  rw [hn] at hA ⊢
  have HL := Lib.hid hn
  clear hn hown HD
  go_wp2
  go_loopw [4, 5] (fun v i wr => ∃ (k : Nat) (O : List Nat), k ≤ n ∧ i = .int .i64 (k : Int) ∧ Hid (O = (l.take k).filter fun c => !isM c) ∧ O.length ≤ k ∧ wr.ownsRow w1.heap.size 3 1 v O.length (O.map nv) ∧ Below w1.heap.size w1 wr) (fun _ i _ => n - (intOf i).toNat)
  case atStart => exact ⟨0, [], by omega, rfl, Lib.hid rfl, by simp, World.ownsRow_nil _ _ _ _, Below.refl _ _⟩
  case round =>
    obtain ⟨k, O, hk, rfl, HO, hOk, hown, hb⟩ := hrel
    have hbs := hb.size
    by_cases hlt : k < n
    · have i1 : decide ((k : Int) < (n : Int)) = true := by simp; omega
      obtain ⟨b0, o0, rfl, hB0, hc0⟩ := hA.some_ (by omega)
      obtain ⟨x, hx⟩ : ∃ a, l[k]? = some a := ⟨_, List.getElem?_eq_getElem (by have := HL.out; omega)⟩
      have d0 := (hb.cell (p := ⟨b0, o0 + k, none⟩) hB0).trans (hc0 k x hx)
      simp only [nv] at d0
      have kz : (k : Int) < (n : Int) := by omega
      have HC := refClassM_any x wr
      have HF := filter_next (p := fun c => !isM c) hx
      obtain ⟨kc, hkc⟩ : ∃ kc, clM x = kc := ⟨_, rfl⟩
      rw [hkc] at HC
      have HC := Lib.hid HC
      by_cases h0 : kc = 0
      · have t1 : ((kc : Int) == 0) = true := by rw [h0]; rfl
        have HO2 : Hid (O ++ [x] = (l.take (k + 1)).filter fun c => !isM c) := Lib.hid (by
          have hz : isM x = false := isM_zero.2 (by omega)
          rw [HF, if_pos (by simp [hz]), HO.out])
        have hOl : (O ++ [x]).length ≤ k + 1 := by rw [List.length_append, List.length_singleton]; omega
        clear hc0 hx hkc HF h0
        go_wp2_with fail
        refine HC.out.mono ?_
        rintro e w2 ⟨rfl, q2, rfl⟩
        have hown2 := own_drewN hown q2
        go_wp2_with (at_builtin; refine append_int (wr.drewN q2) rfl (.tmp 22) (.tmp 27) rfl w1.heap.size u4 O rfl hown2 x _ rfl rfl (by omega) hbs ?_; intro r1 w3 hown3 hb3)
        go_roundw
        case rel => exact ⟨k + 1, O ++ [x], by omega, by go_num, HO2, hOl, hown3, (below_drewN hb q2).trans hb3⟩
        case measure => simp [intOf]; omega
      · have t1 : ((kc : Int) == 0) = false := eqb_false (by omega)
        have HO2 : Hid (O = (l.take (k + 1)).filter fun c => !isM c) := Lib.hid (by
          have hz : isM x = true := isM_pos.2 (by omega)
          rw [HF, if_neg (by simp [hz]), List.append_nil, HO.out])
        clear hc0 hx hkc HF h0
        go_wp2_with fail
        refine HC.out.mono ?_
        rintro e w2 ⟨rfl, q2, rfl⟩
        go_wp2
        go_roundw
        case rel => exact ⟨k + 1, O, by omega, by go_num, HO2, by omega, own_drewN hown q2, below_drewN hb q2⟩
        case measure => simp [intOf]; omega
    · obtain rfl : k = n := by omega
      have hOe : O = l.filter fun c => !isM c := by have := HO.out; rwa [List.take_of_length_le (by rw [HL.out]; omega)] at this
      have HE : Hid (nStrip s = encL O) := Lib.hid (by rw [HN.out, hOe])
      have hEnc := Lib.hid (encode_own _ u4 O wr hown (fun c hc => HOK.out c (by rw [hOe] at hc; exact (List.mem_filter.1 hc).1)) (by omega))
      clear hOe hown
      go_wp2_with fail
      refine hEnc.out.mono ?_
      rintro e w2 ⟨rfl, hb2⟩
      go_wp2
      go_ret
      rw [HE.out]
      exact ⟨rfl, below_next (below_next hb1 hb) hb2⟩

end Go.Proofs.YtpgaebdaakllaaaDoor
