/-
  The body of the statement NatTexts.
-/
import Derived.Test.YtheadamdhjhnpaaDoorAwake
namespace Go.Proofs.YtheadamdhjhnpaaDoor
open Go.RowKit

theorem decV_decS (n : Nat) : decV (decS n) = n := by
  induction n using Nat.strongRecOn with
  | ind n ih =>
    by_cases h : n = 0
    · subst h; rw [decS_zero]; rfl
    · rw [decS_pos h, decV_snoc, ih (n / 10) (by omega), byte_val rfl]
      omega
theorem decS_all (n : Nat) : (decS n).all isDec = true := by
  induction n using Nat.strongRecOn with
  | ind n ih =>
    by_cases h : n = 0
    · subst h; rw [decS_zero]; rfl
    · rw [decS_pos h]
      exact all_snoc (ih (n / 10) (by omega)) dec_of
theorem decS_len : ∀ (k n : Nat), n < pt k → (decS n).length ≤ k
  | 0, n, h => by
    have h2 : n < 1 := h
    obtain rfl : n = 0 := by omega
    rw [decS_zero]; simp
  | k + 1, n, h => by
    by_cases h0 : n = 0
    · subst h0; rw [decS_zero]; simp
    · have h2 : n < pt k * 10 := by unfold pt at h ⊢; rwa [Nat.pow_succ] at h
      rw [decS_pos h0, List.length_append, List.length_singleton]
      have := decS_len k (n / 10) (by omega)
      omega
theorem pw_pt {k m : Nat} (h : 16 * k ≤ 3 * m) : pw k ≤ pt m := by
  unfold pw pt
  have h1 : (65536 : Nat) ^ k = 2 ^ (16 * k) := by rw [Nat.pow_mul]
  have h2 : (2 : Nat) ^ (3 * m) = 8 ^ m := by rw [Nat.pow_mul]
  rw [h1]
  refine Nat.le_trans (Nat.pow_le_pow_right (by omega) h) ?_
  rw [h2]
  exact Nat.pow_le_pow_left (by omega) m
theorem decS_head {n : Nat} {c : UInt8} {t : List UInt8} (h : decS n = c :: t) : c ≠ 48 := by
  intro hc
  have h1 := strip_dec (decS n) (decS_all n)
  rw [decV_decS, h, hc, List.dropWhile_cons, if_pos (by rfl)] at h1
  have h2 := congrArg List.length h1
  have h3 : (t.dropWhile (fun c => c == 48)).length ≤ t.length := (List.dropWhile_suffix _).length_le
  simp at h2
  omega
/-- The notation of a number is one, and it is the number's. -/
theorem show_note {a : Nat} (ha : a < pw 128) : noteB (showS (some a)) = true ∧ decV (showS (some a)) = a := by
  by_cases h0 : a = 0
  · subst h0
    exact ⟨by rfl, by rfl⟩
  · have e : showS (some a) = decS a := if_neg h0
    rw [e]
    refine ⟨?_, decV_decS a⟩
    unfold noteB formB
    rw [decS_all]
    have hl := decS_len 700 a (Nat.lt_of_lt_of_le ha (pw_pt (by omega)))
    cases hd : decS a with
    | nil => exact absurd (decS_eq_nil.1 hd) h0
    | cons c t =>
      have hc := decS_head hd
      rw [hd] at hl
      simp at hl
      simp [hc]
      omega
theorem show_parse {a : Nat} (ha : a < pw 128) : parseR (showS (some a)) = .ok a := by
  obtain ⟨h1, h2⟩ := show_note ha
  rw [← parse_limit h1, h2]
  exact if_pos ha
theorem parse_show {s : List UInt8} {m : Nat} (h : parseR s = .ok m) : m < pw 128 ∧ showS (some m) = s := by
  cases hn : noteB s with
  | false => rw [parse_error hn] at h; cases h
  | true =>
    rw [← parse_limit hn] at h
    unfold limit at h
    split at h
    · rename_i hlt
      injection h with h
      subst h
      refine ⟨hlt, ?_⟩
      have hs := strip_dec s (note_all hn)
      unfold noteB formB at hn
      simp at hn
      cases s with
      | nil => simp at hn
      | cons c t =>
        by_cases hc : c = 48
        · have ht : t = [] := by
            have := hn.1.2
            rw [hc] at this
            simpa using this
          subst hc ht
          rfl
        · rw [List.dropWhile_cons, if_neg (by simpa using hc)] at hs
          have hne : decV (c :: t) ≠ 0 := fun h0 => by rw [h0, decS_zero] at hs; cases hs
          show (if decV (c :: t) = 0 then [48] else decS (decV (c :: t))) = c :: t
          rw [if_neg hne, ← hs]
    · cases h
theorem parse_err {s : List UInt8} {k : Nat} (h : parseR s = .error k) : ((k : Int) != 0) = true := by
  unfold parseR limit at h
  split at h
  · split at h
    · cases h
    · injection h with h; subst h; rfl
  · injection h with h; subst h; rfl
theorem parse_empty : parseR [] = .error 7 := parse_error (by rfl)
theorem numOf_empty : numOf [] = some 0 := by
  have := numOf_nI (n := 0) (pw_pos 128)
  unfold nI at this
  rwa [dg_zero] at this
theorem natParse_ok (W : World) (s : List UInt8) (hlen : s.length ≤ 1000000000000) (m : Nat) (w : World) (hk : Below W.heap.size W w) (hr : parseR s = .ok m) :
    Calls Tryd.prog 42 #[.string (str s)] w fun e w' => ∃ u, e = .returned (.tuple #[u, .int .i64 0]) ∧ Ints w' u (nI m) ∧ Below W.heap.size W w' ∧ Below w.heap.size w w' :=
  natParse_at W s hlen (.ok m) w hk hr
theorem natParse_bad (W : World) (s : List UInt8) (hlen : s.length ≤ 1000000000000) (k : Nat) (w : World) (hk : Below W.heap.size W w) (hr : parseR s = .error k) :
    Calls Tryd.prog 42 #[.string (str s)] w fun e w' => ∃ u, e = .returned (.tuple #[u, .int .i64 (k : Int)]) ∧ Ints w' u [] ∧ Below W.heap.size W w' ∧ Below w.heap.size w w' :=
  natParse_at W s hlen (.error k) w hk hr
theorem natShow_good (W : World) (v : Value) (xs : List Int) (a : Nat) (s : List UInt8) (w : World) (hk : Below W.heap.size W w) (h : Ints w v xs) (hn : numOf xs = some a) (hs : showS (some a) = s) :
    Calls Tryd.prog 40 #[v] w fun e w' => e = .returned (.tuple #[.string (str s), .int .i64 0]) ∧ Below W.heap.size W w' ∧ Below w.heap.size w w' :=
  natShow_at W v xs s 0 w hk h (by rw [hn]; exact hs) (by rw [hn]; rfl)
theorem natShow_bad (W : World) (v : Value) (xs : List Int) (w : World) (hk : Below W.heap.size W w) (h : Ints w v xs) (hn : numOf xs = none) :
    Calls Tryd.prog 40 #[v] w fun e w' => e = .returned (.tuple #[.string (str []), .int .i64 1]) ∧ Below W.heap.size W w' ∧ Below w.heap.size w w' :=
  natShow_at W v xs [] 1 w hk h (by rw [hn]; rfl) (by rw [hn]; rfl)
theorem refParse_ok (W : World) (s : List UInt8) (hlen : s.length ≤ 1000000000000) (m : Nat) (w : World) (hk : Below W.heap.size W w) (hr : parseR s = .ok m) :
    Calls Tryd.prog 43 #[.string (str s)] w fun e w' => ∃ u, e = .returned (.tuple #[u, .int .i64 0]) ∧ Ints w' u (nI m) ∧ Below W.heap.size W w' ∧ Below w.heap.size w w' :=
  refParse_at W s hlen (.ok m) w hk hr
theorem refParse_bad (W : World) (s : List UInt8) (hlen : s.length ≤ 1000000000000) (k : Nat) (w : World) (hk : Below W.heap.size W w) (hr : parseR s = .error k) :
    Calls Tryd.prog 43 #[.string (str s)] w fun e w' => ∃ u, e = .returned (.tuple #[u, .int .i64 (k : Int)]) ∧ Ints w' u [] ∧ Below W.heap.size W w' ∧ Below w.heap.size w w' :=
  refParse_at W s hlen (.error k) w hk hr
theorem refShow_good (W : World) (v : Value) (xs : List Int) (a : Nat) (s : List UInt8) (w : World) (hk : Below W.heap.size W w) (h : Ints w v xs) (hn : numOf xs = some a) (hs : showS (some a) = s) :
    Calls Tryd.prog 41 #[v] w fun e w' => e = .returned (.tuple #[.string (str s), .int .i64 0]) ∧ Below W.heap.size W w' ∧ Below w.heap.size w w' :=
  refShow_at W v xs s 0 w hk h (by rw [hn]; exact hs) (by rw [hn]; rfl)
theorem refShow_bad (W : World) (v : Value) (xs : List Int) (w : World) (hk : Below W.heap.size W w) (h : Ints w v xs) (hn : numOf xs = none) :
    Calls Tryd.prog 41 #[v] w fun e w' => e = .returned (.tuple #[.string (str []), .int .i64 1]) ∧ Below W.heap.size W w' ∧ Below w.heap.size w w' :=
  refShow_at W v xs [] 1 w hk h (by rw [hn]; rfl) (by rw [hn]; rfl)

set_option maxRecDepth 20000 in
set_option maxHeartbeats 3200000 in
theorem natTexts_v (v0 : Value) (xs : List Int) (s : List UInt8) (w : World) (h_v0 : Ints w v0 xs) (hs : s.length ≤ 1000000000000) :
    Calls Tryd.prog 7 #[v0, .string (str s)] w fun e w' => e = .returned (.bool true) ∧ Below w.heap.size w w' := by
  have hsz : (str s).size = s.length := rfl
  cases hf : fewB xs.length with
  | false =>
    have HF := Lib.hid hf
    clear hf
    go_enter Tryd.func7, Tryd.ntmps7
    go_wp2_with fail
    refine (awake_any _).mono ?_
    rintro e w1 ⟨rfl, n1⟩
    have k1 := n1
    replace h_v0 := h_v0.up n1
    go_wp2_with fail
    refine (fewOne_at v0 xs false _ h_v0 HF.out).mono ?_
    rintro e w' ⟨rfl, rfl⟩
    go_wp2_with fail
    refine (awake_any _).mono ?_
    rintro e w2 ⟨rfl, n2⟩
    have k2 := below_next k1 n2
    replace h_v0 := h_v0.up n2
    go_wp2
    go_ret
    exact ⟨rfl, k2⟩
  | true =>
    have HF := Lib.hid hf
    clear hf
    by_cases h720 : 720 < s.length
    · have t1 : decide (720 < (s.length : Int)) = true := by simp; omega
      clear h720
      go_enter Tryd.func7, Tryd.ntmps7
      go_wp2_with fail
      refine (awake_any _).mono ?_
      rintro e w1 ⟨rfl, n1⟩
      have k1 := n1
      replace h_v0 := h_v0.up n1
      go_wp2_with fail
      refine (fewOne_at v0 xs true _ h_v0 HF.out).mono ?_
      rintro e w' ⟨rfl, rfl⟩
      go_wp2_with fail
      refine (awake_any _).mono ?_
      rintro e w2 ⟨rfl, n2⟩
      have k2 := below_next k1 n2
      replace h_v0 := h_v0.up n2
      go_wp2
      go_ret
      exact ⟨rfl, k2⟩
    · have t1 : decide (720 < (s.length : Int)) = false := by simp; omega
      clear h720
      cases hp : parseR s with
      | ok m =>
        obtain ⟨hm, hsm⟩ := parse_show hp
        have HS := Lib.hid hsm
        have HM := Lib.hid (numOf_nI hm)
        have HP := Lib.hid hp
        clear hm hsm hp
        cases hx : numOf xs with
        | some a =>
          obtain ⟨_, ha, hxs⟩ := numOf_some hx
          obtain ⟨T, hT⟩ : ∃ T, showS (some a) = T := ⟨_, rfl⟩
          have hTp := show_parse ha
          have hTn := note_len (show_note ha).1
          rw [hT] at hTp hTn
          have HX := Lib.hid hx
          have HT := Lib.hid hT
          have HTP := Lib.hid hTp
          have HSame : Hid (decide (nI a = xs) = true) := Lib.hid (decide_eq_true hxs.symm)
          clear hx ha hxs hT hTp
          go_enter Tryd.func7, Tryd.ntmps7
          go_wp2_with fail
          refine (awake_any _).mono ?_
          rintro e w1 ⟨rfl, n1⟩
          have k1 := n1
          replace h_v0 := h_v0.up n1
          go_wp2_with fail
          refine (fewOne_at v0 xs true _ h_v0 HF.out).mono ?_
          rintro e w' ⟨rfl, rfl⟩
          go_wp2_with fail
          refine (natShow_good w v0 xs a T _ k1 h_v0 HX.out HT.out).mono ?_
          rintro e w2 ⟨rfl, k2, n2⟩
          replace h_v0 := h_v0.up n2
          go_wp2_with fail
          refine (refShow_good w v0 xs a T _ k2 h_v0 HX.out HT.out).mono ?_
          rintro e w3 ⟨rfl, k3, n3⟩
          replace h_v0 := h_v0.up n3
          go_wp2_with fail
          refine (natParse_ok w s hs m _ k3 HP.out).mono ?_
          rintro e w4 ⟨u1, rfl, h_u1, k4, n4⟩
          replace h_v0 := h_v0.up n4
          go_wp2_with fail
          refine (refParse_ok w s hs m _ k4 HP.out).mono ?_
          rintro e w5 ⟨u2, rfl, h_u2, k5, n5⟩
          replace h_v0 := h_v0.up n5
          replace h_u1 := h_u1.up n5
          go_wp2_with fail
          refine (same_refl w _ _ _ _ k5 h_u1 h_u2).mono ?_
          rintro e w6 ⟨rfl, k6, n6⟩
          replace h_v0 := h_v0.up n6
          replace h_u1 := h_u1.up n6
          replace h_u2 := h_u2.up n6
          go_wp2_with fail
          refine (natShow_good w u1 (nI m) m s _ k6 h_u1 HM.out HS.out).mono ?_
          rintro e w7 ⟨rfl, k7, n7⟩
          replace h_v0 := h_v0.up n7
          replace h_u1 := h_u1.up n7
          go_wp2_with fail
          refine (natParse_ok w T (by omega) a _ k7 HTP.out).mono ?_
          rintro e w8 ⟨u3, rfl, h_u3, k8, n8⟩
          replace h_v0 := h_v0.up n8
          go_wp2_with fail
          refine (same_at w _ _ _ _ true _ k8 h_u3 h_v0 HSame.out).mono ?_
          rintro e w9 ⟨rfl, k9, n9⟩
          replace h_v0 := h_v0.up n9
          replace h_u3 := h_u3.up n9
          go_wp2
          go_ret
          exact ⟨rfl, k9⟩
        | none =>
          have HX := Lib.hid hx
          clear hx
          go_enter Tryd.func7, Tryd.ntmps7
          go_wp2_with fail
          refine (awake_any _).mono ?_
          rintro e w1 ⟨rfl, n1⟩
          have k1 := n1
          replace h_v0 := h_v0.up n1
          go_wp2_with fail
          refine (fewOne_at v0 xs true _ h_v0 HF.out).mono ?_
          rintro e w' ⟨rfl, rfl⟩
          go_wp2_with fail
          refine (natShow_bad w v0 xs _ k1 h_v0 HX.out).mono ?_
          rintro e w2 ⟨rfl, k2, n2⟩
          replace h_v0 := h_v0.up n2
          go_wp2_with fail
          refine (refShow_bad w v0 xs _ k2 h_v0 HX.out).mono ?_
          rintro e w3 ⟨rfl, k3, n3⟩
          replace h_v0 := h_v0.up n3
          go_wp2_with fail
          refine (natParse_ok w s hs m _ k3 HP.out).mono ?_
          rintro e w4 ⟨u1, rfl, h_u1, k4, n4⟩
          replace h_v0 := h_v0.up n4
          go_wp2_with fail
          refine (refParse_ok w s hs m _ k4 HP.out).mono ?_
          rintro e w5 ⟨u2, rfl, h_u2, k5, n5⟩
          replace h_v0 := h_v0.up n5
          replace h_u1 := h_u1.up n5
          go_wp2_with fail
          refine (same_refl w _ _ _ _ k5 h_u1 h_u2).mono ?_
          rintro e w6 ⟨rfl, k6, n6⟩
          replace h_v0 := h_v0.up n6
          replace h_u1 := h_u1.up n6
          replace h_u2 := h_u2.up n6
          go_wp2_with fail
          refine (natShow_good w u1 (nI m) m s _ k6 h_u1 HM.out HS.out).mono ?_
          rintro e w7 ⟨rfl, k7, n7⟩
          replace h_v0 := h_v0.up n7
          replace h_u1 := h_u1.up n7
          go_wp2_with fail
          refine (natParse_bad w [] (by simp) 7 _ k7 parse_empty).mono ?_
          rintro e w8 ⟨u3, rfl, h_u3, k8, n8⟩
          replace h_v0 := h_v0.up n8
          go_wp2
          go_ret
          exact ⟨rfl, k8⟩
      | error k =>
        have tk := parse_err hp
        have HP := Lib.hid hp
        clear hp
        cases hx : numOf xs with
        | some a =>
          obtain ⟨_, ha, hxs⟩ := numOf_some hx
          obtain ⟨T, hT⟩ : ∃ T, showS (some a) = T := ⟨_, rfl⟩
          have hTp := show_parse ha
          have hTn := note_len (show_note ha).1
          rw [hT] at hTp hTn
          have HX := Lib.hid hx
          have HT := Lib.hid hT
          have HTP := Lib.hid hTp
          have HSame : Hid (decide (nI a = xs) = true) := Lib.hid (decide_eq_true hxs.symm)
          clear hx ha hxs hT hTp
          go_enter Tryd.func7, Tryd.ntmps7
          go_wp2_with fail
          refine (awake_any _).mono ?_
          rintro e w1 ⟨rfl, n1⟩
          have k1 := n1
          replace h_v0 := h_v0.up n1
          go_wp2_with fail
          refine (fewOne_at v0 xs true _ h_v0 HF.out).mono ?_
          rintro e w' ⟨rfl, rfl⟩
          go_wp2_with fail
          refine (natShow_good w v0 xs a T _ k1 h_v0 HX.out HT.out).mono ?_
          rintro e w2 ⟨rfl, k2, n2⟩
          replace h_v0 := h_v0.up n2
          go_wp2_with fail
          refine (refShow_good w v0 xs a T _ k2 h_v0 HX.out HT.out).mono ?_
          rintro e w3 ⟨rfl, k3, n3⟩
          replace h_v0 := h_v0.up n3
          go_wp2_with fail
          refine (natParse_bad w s hs k _ k3 HP.out).mono ?_
          rintro e w4 ⟨u1, rfl, h_u1, k4, n4⟩
          replace h_v0 := h_v0.up n4
          go_wp2_with fail
          refine (refParse_bad w s hs k _ k4 HP.out).mono ?_
          rintro e w5 ⟨u2, rfl, h_u2, k5, n5⟩
          replace h_v0 := h_v0.up n5
          replace h_u1 := h_u1.up n5
          go_wp2_with fail
          refine (same_refl w _ _ _ _ k5 h_u1 h_u2).mono ?_
          rintro e w6 ⟨rfl, k6, n6⟩
          replace h_v0 := h_v0.up n6
          replace h_u1 := h_u1.up n6
          replace h_u2 := h_u2.up n6
          go_wp2_with fail
          refine (natShow_good w u1 [] 0 [48] _ k6 h_u1 numOf_empty rfl).mono ?_
          rintro e w7 ⟨rfl, k7, n7⟩
          replace h_v0 := h_v0.up n7
          replace h_u1 := h_u1.up n7
          go_wp2_with fail
          refine (natParse_ok w T (by omega) a _ k7 HTP.out).mono ?_
          rintro e w8 ⟨u3, rfl, h_u3, k8, n8⟩
          replace h_v0 := h_v0.up n8
          go_wp2_with fail
          refine (same_at w _ _ _ _ true _ k8 h_u3 h_v0 HSame.out).mono ?_
          rintro e w9 ⟨rfl, k9, n9⟩
          replace h_v0 := h_v0.up n9
          replace h_u3 := h_u3.up n9
          go_wp2
          go_ret
          exact ⟨rfl, k9⟩
        | none =>
          have HX := Lib.hid hx
          clear hx
          go_enter Tryd.func7, Tryd.ntmps7
          go_wp2_with fail
          refine (awake_any _).mono ?_
          rintro e w1 ⟨rfl, n1⟩
          have k1 := n1
          replace h_v0 := h_v0.up n1
          go_wp2_with fail
          refine (fewOne_at v0 xs true _ h_v0 HF.out).mono ?_
          rintro e w' ⟨rfl, rfl⟩
          go_wp2_with fail
          refine (natShow_bad w v0 xs _ k1 h_v0 HX.out).mono ?_
          rintro e w2 ⟨rfl, k2, n2⟩
          replace h_v0 := h_v0.up n2
          go_wp2_with fail
          refine (refShow_bad w v0 xs _ k2 h_v0 HX.out).mono ?_
          rintro e w3 ⟨rfl, k3, n3⟩
          replace h_v0 := h_v0.up n3
          go_wp2_with fail
          refine (natParse_bad w s hs k _ k3 HP.out).mono ?_
          rintro e w4 ⟨u1, rfl, h_u1, k4, n4⟩
          replace h_v0 := h_v0.up n4
          go_wp2_with fail
          refine (refParse_bad w s hs k _ k4 HP.out).mono ?_
          rintro e w5 ⟨u2, rfl, h_u2, k5, n5⟩
          replace h_v0 := h_v0.up n5
          replace h_u1 := h_u1.up n5
          go_wp2_with fail
          refine (same_refl w _ _ _ _ k5 h_u1 h_u2).mono ?_
          rintro e w6 ⟨rfl, k6, n6⟩
          replace h_v0 := h_v0.up n6
          replace h_u1 := h_u1.up n6
          replace h_u2 := h_u2.up n6
          go_wp2_with fail
          refine (natShow_good w u1 [] 0 [48] _ k6 h_u1 numOf_empty rfl).mono ?_
          rintro e w7 ⟨rfl, k7, n7⟩
          replace h_v0 := h_v0.up n7
          replace h_u1 := h_u1.up n7
          go_wp2_with fail
          refine (natParse_bad w [] (by simp) 7 _ k7 parse_empty).mono ?_
          rintro e w8 ⟨u3, rfl, h_u3, k8, n8⟩
          replace h_v0 := h_v0.up n8
          go_wp2
          go_ret
          exact ⟨rfl, k8⟩

theorem natTexts_u (v0 : Value) (xs : List Int) (b : ByteArray) (w : World) (h_v0 : Ints w v0 xs) (hs : b.size ≤ maxLen) :
    Calls Tryd.prog 7 #[v0, .string b] w fun e w' => e = .returned (.bool true) ∧ Below w.heap.size w w' := by
  by_cases h7 : b.size ≤ 1000000000000
  · rw [← str_data b]
    exact natTexts_v v0 xs b.data.toList w h_v0 h7
  · have t1 : decide (720 < (b.size : Int)) = true := by simp; omega
    have hmax : b.size ≤ 9223372036854775807 := by unfold maxLen at hs; omega
    cases hf : fewB xs.length with
    | false =>
      have HF := Lib.hid hf
      clear hf
      go_enter Tryd.func7, Tryd.ntmps7
      go_wp2_with fail
      refine (awake_any _).mono ?_
      rintro e w1 ⟨rfl, n1⟩
      have k1 := n1
      replace h_v0 := h_v0.up n1
      go_wp2_with fail
      refine (fewOne_at v0 xs false _ h_v0 HF.out).mono ?_
      rintro e w' ⟨rfl, rfl⟩
      go_wp2_with fail
      refine (awake_any _).mono ?_
      rintro e w2 ⟨rfl, n2⟩
      have k2 := below_next k1 n2
      replace h_v0 := h_v0.up n2
      go_wp2
      go_ret
      exact ⟨rfl, k2⟩
    | true =>
      have HF := Lib.hid hf
      clear hf h7 hs
      go_enter Tryd.func7, Tryd.ntmps7
      go_wp2_with fail
      refine (awake_any _).mono ?_
      rintro e w1 ⟨rfl, n1⟩
      have k1 := n1
      replace h_v0 := h_v0.up n1
      go_wp2_with fail
      refine (fewOne_at v0 xs true _ h_v0 HF.out).mono ?_
      rintro e w' ⟨rfl, rfl⟩
      go_wp2_with fail
      refine (awake_any _).mono ?_
      rintro e w2 ⟨rfl, n2⟩
      have k2 := below_next k1 n2
      replace h_v0 := h_v0.up n2
      go_wp2
      go_ret
      exact ⟨rfl, k2⟩

end Go.Proofs.YtheadamdhjhnpaaDoor
