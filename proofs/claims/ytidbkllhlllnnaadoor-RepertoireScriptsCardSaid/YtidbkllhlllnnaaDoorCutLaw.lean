/-
  The body of the statement RepertoireCut.
-/
import Derived.Test.YtidbkllhlllnnaaDoorEncodeLaw
namespace Go.Proofs.YtidbkllhlllnnaaDoor
open Go.RowKit

theorem str_tail {P : Program} (T : TypeId) (hT : P.underlying T = some .string) (s : List UInt8) (k : Nat) (h : k ≤ s.length) (W : World) :
    (Instr.sliceAt T (.string (str s)) (some (.int .i64 (k : Int))) none none).run P W = .ok (.string (str (s.drop k))) W := by
  rw [run_sliceAt_string W _ _ _ _ _ hT, run_slice_string_l W _ _ hT .i64 (k : Int) (by omega) (by show (k : Int) ≤ (s.length : Int); omega)]
  congr 2
  apply ByteArray.ext
  simp [str]
  exact List.take_of_length_le (by show (s.drop k).length ≤ s.length - k; rw [List.length_drop]; exact Nat.le_refl _)

theorem encL_split (l : List Nat) (N : Nat) : encL l = encL (l.take N) ++ encL (l.drop N) := by rw [← encL_app, List.take_append_drop]
theorem take_pre {a b : List UInt8} : (a ++ b).take a.length = a := List.take_left
theorem cut_pre (s : List UInt8) (n : Int) : (cutR s n).length ≤ s.length ∧ s.take (cutR s n).length = cutR s n := by
  by_cases h1 : n < 1
  · rw [cutR_less h1]; exact ⟨Nat.zero_le _, rfl⟩
  · cases hr : decR s with
    | none => rw [cutR_none hr]; exact ⟨Nat.zero_le _, rfl⟩
    | some l =>
      rw [cutR_some hr h1]
      have hs := (enc_dec hr).1
      have h2 := encL_split l n.toNat
      rw [hs] at h2
      constructor
      · conv => rhs; rw [h2]
        rw [List.length_append]; omega
      · conv => lhs; rw [h2]
        exact take_pre
theorem ok_take {l : List Nat} {N : Nat} (h : ∀ c ∈ l, okC c) : ∀ c ∈ l.take N, okC c := fun c hc => h c (List.mem_of_mem_take hc)
theorem ok_drop {l : List Nat} {N : Nat} (h : ∀ c ∈ l, okC c) : ∀ c ∈ l.drop N, okC c := fun c hc => h c (List.mem_of_mem_drop hc)
theorem count_enc {l : List Nat} (h : ∀ c ∈ l, okC c) : countR (encL l) = l.length := countR_some (dec_enc l h)
theorem cut_count {s : List UInt8} {l : List Nat} (h : decR s = some l) (n : Int) :
    ∃ N, N ≤ l.length ∧ (n < 1 → N = 0) ∧ (1 ≤ n → n ≤ l.length → N = n.toNat) ∧ ((l.length : Int) < n → N = l.length) ∧ countR (cutR s n) = N ∧ countR (s.drop (cutR s n).length) = l.length - N := by
  obtain ⟨hs, hok⟩ := enc_dec h
  have main : ∀ N, N ≤ l.length → countR (encL (l.take N)) = N ∧ countR (s.drop (encL (l.take N)).length) = l.length - N := by
    intro N hN
    refine ⟨by rw [count_enc (ok_take hok), List.length_take]; omega, ?_⟩
    rw [← hs]
    conv => lhs; rw [encL_split l N]
    rw [List.drop_left, count_enc (ok_drop hok), List.length_drop]
  by_cases h1 : n < 1
  · refine ⟨0, by omega, fun _ => rfl, by omega, by omega, ?_⟩
    have := main 0 (by omega)
    rw [cutR_less h1]
    exact this
  · by_cases h2 : n ≤ (l.length : Int)
    · refine ⟨n.toNat, by omega, by omega, fun _ _ => rfl, by omega, ?_⟩
      rw [cutR_some h h1]
      exact main n.toNat (by omega)
    · refine ⟨l.length, by omega, by omega, by omega, fun _ => rfl, ?_⟩
      have := main l.length (by omega)
      rw [cutR_some h h1, List.take_of_length_le (by omega)]
      rw [List.take_of_length_le (Nat.le_refl _)] at this
      exact this

set_option maxRecDepth 20000 in
set_option maxHeartbeats 3200000 in
theorem repCut_v (s : List UInt8) (n : Int) (w : World) (hS : Spans w) (hlen : s.length ≤ 9223372036854775807) (hn : n ≤ 9223372036854775807) :
    Calls Tryd.prog 7 #[.string (str s), .int .i64 n] w fun e w' => e = .returned (.bool true) ∧ Below w.heap.size w w' := by
  have hsz : (str s).size = s.length := rfl
  by_cases h5 : 200 < s.length
  · have t1 : decide (200 < (s.length : Int)) = true := by simp; omega
    go_enter Tryd.func7, Tryd.ntmps7
    go_wp2_with fail
    refine (awake_any _ hS).mono ?_
    rintro e w1 ⟨rfl, n1⟩
    have k1 := n1
    go_wp2
    go_ret
    exact ⟨rfl, k1⟩
  have t1 : decide (200 < (s.length : Int)) = false := by simp; omega
  have hs2 : s.length ≤ 10000 := by omega
  obtain ⟨t, ht⟩ : ∃ t, cutR s n = t := ⟨_, rfl⟩
  have HT := Lib.hid ht
  have hpre := cut_pre s n
  rw [ht] at hpre
  obtain ⟨hp1, hp2⟩ := hpre
  have HP := Lib.hid hp2
  have hts : (str t).size = t.length := rfl
  have htl : t.length ≤ 10000 := by omega
  have tl : decide ((s.length : Int) < (t.length : Int)) = false := by simp; omega
  have hhead := str_head (P := Tryd.prog) 9 Tryd.underlying9 s t.length hp1
  have htail := str_tail (P := Tryd.prog) 9 Tryd.underlying9 s t.length hp1
  have htt : ((str t).toList == (str t).toList) = true := beq_self_eq_true _
  rw [hp2] at hhead
  have hdl : (s.drop t.length).length ≤ 10000 := by rw [List.length_drop]; omega
  cases hr : decR s with
  | none =>
    have HR := Lib.hid hr
    clear hr ht hp2
    go_enter Tryd.func7, Tryd.ntmps7
    go_wp2_with fail
    refine (awake_any _ hS).mono ?_
    rintro e w1 ⟨rfl, n1⟩
    have k1 := n1
    go_wp2_with fail
    refine (prCut_at w hS s n t _ k1 hn HT.out).mono ?_
    rintro e w2 ⟨rfl, k2, n2⟩
    go_wp2_with fail
    refine (refCut_at w s n t _ k2 hs2 HT.out).mono ?_
    rintro e w3 ⟨rfl, k3, n3⟩
    go_wp2_with fail
    refine (prDecode_at w hS s _ _ k3 hs2 HR.out).mono ?_
    rintro e w4 ⟨u1, rfl, h_u1, k4, n4⟩
    go_wp2
    go_ret
    exact ⟨rfl, k4⟩
  | some l =>
    obtain ⟨N, hN1, hN2, hN3, hN4, hN5, hN6⟩ := cut_count hr n
    rw [ht] at hN5 hN6
    obtain ⟨K, hK⟩ : ∃ K, K = l.length := ⟨_, rfl⟩
    have HR := Lib.hid hr
    have HC : Hid (countR s = K) := Lib.hid (by rw [countR_some hr, hK])
    rw [← hK] at hN1 hN3 hN4 hN6
    have HCT := Lib.hid hN5
    have HCD := Lib.hid hN6
    have hKs : K ≤ 200 := by have := dec_len hr; omega
    have hmm : (N : Int) = max 0 (min n (K : Int)) := by
      rcases Int.lt_or_le n 1 with h | h
      · have := hN2 h; omega
      · rcases Int.lt_or_le (K : Int) n with h2 | h2
        · have := hN4 h2; omega
        · have := hN3 h h2; omega
    have hD : ((K - N : Nat) : Int) = (K : Int) - (N : Int) := by omega
    have e1 : ((N : Int) == max 0 (min n (K : Int))) = true := by rw [← hmm]; simp
    clear hr ht hp2 hK hN5 hN6
    go_enter Tryd.func7, Tryd.ntmps7
    go_wp2_with fail
    refine (awake_any _ hS).mono ?_
    rintro e w1 ⟨rfl, n1⟩
    have k1 := n1
    go_wp2_with fail
    refine (prCut_at w hS s n t _ k1 hn HT.out).mono ?_
    rintro e w2 ⟨rfl, k2, n2⟩
    go_wp2_with fail
    refine (refCut_at w s n t _ k2 hs2 HT.out).mono ?_
    rintro e w3 ⟨rfl, k3, n3⟩
    go_wp2_with fail
    refine (prDecode_at w hS s _ _ k3 hs2 HR.out).mono ?_
    rintro e w4 ⟨u1, rfl, h_u1, k4, n4⟩
    go_wp2_with fail
    refine (prCount_at w hS t N _ k4 htl HCT.out).mono ?_
    rintro e w5 ⟨rfl, k5, n5⟩
    go_wp2_with fail
    refine (prCount_at w hS s K _ k5 hs2 HC.out).mono ?_
    rintro e w6 ⟨rfl, k6, n6⟩
    have e2 : (((K - N : Nat) : Int) == (K : Int) - (N : Int)) = true := by rw [hD]; simp
    go_wp2_with fail
    all_goals
      refine (prCount_at w hS (s.drop t.length) (K - N) _ k6 hdl HCD.out).mono ?_
      rintro e w7 ⟨rfl, k7, n7⟩
      go_wp2_with fail
      refine (prCount_at w hS s K _ k7 hs2 HC.out).mono ?_
      rintro e w8 ⟨rfl, k8, n8⟩
      go_wp2_with fail
      refine (prCount_at w hS t N _ k8 htl HCT.out).mono ?_
      rintro e w9 ⟨rfl, k9, n9⟩
      go_wp2
      go_ret
      exact ⟨rfl, k9⟩

end Go.Proofs.YtidbkllhlllnnaaDoor
