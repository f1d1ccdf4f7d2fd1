/-
  The body of the statement DigestOpen.
-/
import Derived.Test.YtjmmhgdafjdmdaaUnsealRef
import Derived.Test.YtjmmhgdafjdmdaaParseRef
namespace Go.Proofs.Ytjmmhgdafjdmdaa
open Go.RowKit

theorem open_cases (bs : List UInt8) : (∃ P, open_ bs = (P, 0) ∧ seal_ P = bs ∧ P.length ≤ bs.length) ∨ ∃ E : Nat, open_ bs = ([], E) ∧ E ≠ 0 ∧ E < 10 := by
  by_cases h0 : (open_ bs).2 = 0
  · refine .inl ⟨(open_ bs).1, by rw [← h0], ?_, ?_⟩
    · exact seal_open (by rw [← h0])
    · have := seal_open (l := bs) (p := (open_ bs).1) (by rw [← h0])
      conv => rhs; rw [← this]
      simp [seal_]
  · refine .inr ?_
    unfold open_ at h0 ⊢
    split
    · exact ⟨5, rfl, by omega, by omega⟩
    · split
      · rename_i h1 h2
        rw [if_neg h1, if_pos h2] at h0
        exact absurd rfl h0
      · exact ⟨6, rfl, by omega, by omega⟩

theorem OpenEnd.out {bs P : List UInt8} {E : Nat} {e : Ending} {w' : World} (h : OpenEnd bs e w') (ho : open_ bs = (P, E)) : ∃ A c, e = .returned (.tuple #[.slice A P.length c, .int .i64 (E : Int)]) ∧ Sl w' w'.heap.size (.slice A P.length c) P := by
  unfold OpenEnd at h
  rw [ho] at h
  obtain ⟨v', h1, h2⟩ := h
  obtain ⟨A, c, rfl⟩ := h2.form
  exact ⟨A, c, h1, h2⟩

theorem unseal_out (A : Option Addr) (n c : Nat) (bs P : List UInt8) (E : Nat) (ho : open_ bs = (P, E)) (W w : World) (hk : Below W.heap.size W w) (hs : Sl w w.heap.size (.slice A n c) bs) (hn : bs.length = n) (hlen : n ≤ 900) :
    Calls Try.prog 20 #[.slice A n c] w fun e w' => ∃ A' c', e = .returned (.tuple #[.slice A' P.length c', .int .i64 (E : Int)]) ∧ Sl w' w'.heap.size (.slice A' P.length c') P ∧ Below W.heap.size W w' ∧ Below w.heap.size w w' :=
  (unseal_any A n c bs w hs hn hlen).mono fun _ _ ⟨h1, h2⟩ => by
    obtain ⟨A', c', e1, s1⟩ := h1.out ho
    exact ⟨A', c', e1, s1, hk.trans (h2.mono hk.size), h2⟩
theorem refUnseal_out (A : Option Addr) (n c : Nat) (bs P : List UInt8) (E : Nat) (ho : open_ bs = (P, E)) (W w : World) (hk : Below W.heap.size W w) (hs : Sl w w.heap.size (.slice A n c) bs) (hn : bs.length = n) (hlen : n ≤ 900) :
    Calls Try.prog 21 #[.slice A n c] w fun e w' => ∃ A' c', e = .returned (.tuple #[.slice A' P.length c', .int .i64 (E : Int)]) ∧ Sl w' w'.heap.size (.slice A' P.length c') P ∧ Below W.heap.size W w' ∧ Below w.heap.size w w' :=
  (refUnseal_any A n c bs w hs hn hlen).mono fun _ _ ⟨h1, h2⟩ => by
    obtain ⟨A', c', e1, s1⟩ := h1.out ho
    exact ⟨A', c', e1, s1, hk.trans (h2.mono hk.size), h2⟩

theorem same_true (v v' : Value) (bs : List UInt8) (B : Nat) (w : World) (h : Sl w B v bs) (h' : Sl w B v' bs) :
    Calls Try.prog 15 #[v, v'] w fun e w' => e = .returned (.bool true) ∧ w = w' :=
  (same_any v v' bs bs B w h h').mono fun _ _ ⟨h1, h2⟩ => ⟨by rw [h1, beq_self_eq_true], h2⟩

theorem Sl.up {w w' : World} {v : Value} {bs : List UInt8} (h : Sl w w.heap.size v bs) (hb : Below w.heap.size w w') : Sl w' w'.heap.size v bs := (h.below hb).more hb.size
theorem Sl.from_ {W w : World} {v : Value} {bs : List UInt8} (h : Sl W W.heap.size v bs) (hk : Below W.heap.size W w) : Sl w w.heap.size v bs := h.up hk

theorem sealed_out (A : Option Addr) (n c : Nat) (bs : List UInt8) (W w : World) (hk : Below W.heap.size W w) (hs : Sl w w.heap.size (.slice A n c) bs) (hn : bs.length = n) (hlen : n ≤ 900) :
    Calls Try.prog 16 #[.slice A n c] w fun e w' => ∃ A' c', e = .returned (.slice A' (seal_ bs).length c') ∧ Sl w' w'.heap.size (.slice A' (seal_ bs).length c') (seal_ bs) ∧ Below W.heap.size W w' ∧ Below w.heap.size w w' :=
  (sealed_any A n c bs w.heap.size w hs hn (Nat.le_refl _) (by omega)).mono fun _ _ ⟨v', h1, h2, h3⟩ => by
    have h4 := Sl.of_own h2
    obtain ⟨A', c', rfl⟩ := h4.form
    exact ⟨A', c', h1, h4, hk.trans (h3.mono hk.size), h3⟩

theorem seal_length (bs : List UInt8) : (seal_ bs).length = bs.length + 4 := by simp [seal_, le4]

theorem parse_printed (r : BitVec 32) (w : World) :
    Calls Try.prog 22 #[.string (str (digits r.toNat))] w fun e w' => e = .returned (.tuple #[.int .u32 (r.toNat : Int), .int .i64 0]) ∧ w = w' :=
  (parse_any (digits r.toNat) w).mono fun _ _ ⟨h1, h2⟩ => by
    obtain ⟨e1, e2⟩ := parse_print r.toNat r.isLt
    unfold ParseEnd at h1
    rw [e1, e2] at h1
    exact ⟨h1, h2⟩

theorem parseE_small (s : List UInt8) : parseE s = 0 ∨ parseE s = 7 := by unfold parseE; split <;> simp
theorem parseN_lt (s : List UInt8) : parseN s < 2 ^ 32 := by
  unfold parseN
  split
  · rename_i h
    exact (parse_good h.1 h.2).2.2
  · omega

theorem parse_at (s : List UInt8) (N G : Nat) (hN : parseN s = N) (hG : parseE s = G) (w : World) :
    Calls Try.prog 22 #[.string (str s)] w fun e w' => e = .returned (.tuple #[.int .u32 (N : Int), .int .i64 (G : Int)]) ∧ w = w' := by
  subst hN hG
  exact parse_any s w
theorem refParse_at (s : List UInt8) (N G : Nat) (hN : parseN s = N) (hG : parseE s = G) (hl : s.length ≤ 1000) (w : World) :
    Calls Try.prog 23 #[.string (str s)] w fun e w' => e = .returned (.tuple #[.int .u32 (N : Int), .int .i64 (G : Int)]) ∧ w = w' := by
  subst hN hG
  exact refParse_any s w (by omega)
theorem print_back (s : List UInt8) (N : Nat) (hN : N < 2 ^ 32) (hd : digits N = s) (w : World) :
    Calls Try.prog 24 #[.int .u32 (N : Int)] w fun e w' => e = .returned (.string (str s)) ∧ Below w.heap.size w w' := by
  subst hd
  exact print_any N w hN

set_option maxRecDepth 100000 in
set_option maxHeartbeats 3200000 in
theorem digestOpen_goodText (A : Option Addr) (n c : Nat) (bs : List UInt8) (r : BitVec 32) (s : List UInt8) (w : World) (h : Sl w w.heap.size (.slice A n c) bs) (HN : Hid (bs.length = n)) (h3 : n ≤ 300) (h6 : s.length ≤ 60) (P : List UInt8) (N G : Nat) (HNN : Hid (parseN s = N)) (HG : Hid (parseE s = G)) (HO : Hid (open_ bs = (P, 0))) (HSEAL : Hid (seal_ P = bs)) (hP : P.length ≤ bs.length) (hG : G = 0) (HNL : Hid (N < 2 ^ 32)) (HD : Hid (digits N = s)) :
    Calls Try.prog 6 #[.slice A n c, .int .u32 (r.toNat : Int), .string (str s)] w fun e w' => e = .returned (.bool true) ∧ Below w.heap.size w w' := by
  have hsz : (str s).size = s.length := rfl
  go_enter Try.func6, Try.ntmps6
  go_wp2_with fail
  refine (awake_any _).mono ?_
  rintro e w1 ⟨rfl, k1⟩
  have t1 : decide (300 < (n : Int)) = false := by simp; omega
  have t2 : decide (60 < (s.length : Int)) = false := by simp; omega
  subst hG
  go_wp2_with fail
  refine (unseal_out A n c bs P 0 HO.out w _ k1 (h.from_ k1) HN.out (by omega)).mono ?_
  rintro e w2 ⟨A2, c2, rfl, s2, k2, b2⟩
  go_wp2_with fail
  refine (refUnseal_out A n c bs P 0 HO.out w _ k2 (h.from_ k2) HN.out (by omega)).mono ?_
  rintro e w3 ⟨A3, c3, rfl, s3, k3, b3⟩
  have s23 := s2.up b3
  clear s2
  go_wp2_with fail
  refine (parse_at s N 0 HNN.out HG.out _).mono ?_
  rintro e w4 ⟨rfl, rfl⟩
  go_wp2_with fail
  refine (refParse_at s N 0 HNN.out HG.out (by omega) _).mono ?_
  rintro e w4 ⟨rfl, rfl⟩
  go_wp2_with fail
  refine (same_true _ _ P _ _ s23 s3).mono ?_
  rintro e w4 ⟨rfl, rfl⟩
  go_wp2_with fail
  refine (sealed_out A2 P.length c2 P w _ k3 s23 rfl (by have := HN.out; omega)).mono ?_
  rintro e w4 ⟨A4, c4, rfl, s4, k4, b4⟩
  rw [HSEAL.out] at s4 ⊢
  clear s23 s3
  go_wp2_with fail
  refine (same_true _ _ bs _ _ s4 (h.from_ k4)).mono ?_
  rintro e w5 ⟨rfl, rfl⟩
  go_wp2_with fail
  refine (print_back s N HNL.out HD.out _).mono ?_
  rintro e w5 ⟨rfl, b5⟩
  have k5 := k4.trans (b5.mono k4.size)
  go_wp2_with fail
  refine (sealed_out A n c bs w _ k5 (h.from_ k5) HN.out (by omega)).mono ?_
  rintro e w6 ⟨A6, c6, rfl, s6, k6, b6⟩
  go_wp2_with fail
  refine (unseal_out A6 _ c6 (seal_ bs) bs 0 (open_seal bs) w _ k6 s6 rfl (by rw [seal_length]; have := HN.out; omega)).mono ?_
  rintro e w7 ⟨A7, c7, rfl, s7, k7, b7⟩
  clear s6
  go_wp2_with fail
  refine (print_any r.toNat _ r.isLt).mono ?_
  rintro e w8 ⟨rfl, b8⟩
  have k8 := k7.trans (b8.mono k7.size)
  have s8 := s7.up b8
  clear s7
  go_wp2_with fail
  refine (parse_printed r _).mono ?_
  rintro e w9 ⟨rfl, rfl⟩
  go_wp2_with fail
  refine (same_true _ _ bs _ _ s8 (h.from_ k8)).mono ?_
  rintro e w9 ⟨rfl, rfl⟩
  go_wp2_with fail
  refine (print_any r.toNat _ r.isLt).mono ?_
  rintro e w10 ⟨rfl, b10⟩
  have k10 := k8.trans (b10.mono k8.size)
  go_wp2_with fail
  refine (refPrint_any r.toNat _).mono ?_
  rintro e w11 ⟨rfl, rfl⟩
  go_wp2
  go_ret
  exact ⟨rfl, k10⟩

set_option maxRecDepth 100000 in
set_option maxHeartbeats 3200000 in
theorem digestOpen_goodNoText (A : Option Addr) (n c : Nat) (bs : List UInt8) (r : BitVec 32) (s : List UInt8) (w : World) (h : Sl w w.heap.size (.slice A n c) bs) (HN : Hid (bs.length = n)) (h3 : n ≤ 300) (h6 : s.length ≤ 60) (P : List UInt8) (N G : Nat) (HNN : Hid (parseN s = N)) (HG : Hid (parseE s = G)) (HO : Hid (open_ bs = (P, 0))) (HSEAL : Hid (seal_ P = bs)) (hP : P.length ≤ bs.length) (hG : G ≠ 0) :
    Calls Try.prog 6 #[.slice A n c, .int .u32 (r.toNat : Int), .string (str s)] w fun e w' => e = .returned (.bool true) ∧ Below w.heap.size w w' := by
  have hsz : (str s).size = s.length := rfl
  go_enter Try.func6, Try.ntmps6
  go_wp2_with fail
  refine (awake_any _).mono ?_
  rintro e w1 ⟨rfl, k1⟩
  have t1 : decide (300 < (n : Int)) = false := by simp; omega
  have t2 : decide (60 < (s.length : Int)) = false := by simp; omega
  have t4 : ((G : Int) == 0) = false := by simp; omega
  go_wp2_with fail
  refine (unseal_out A n c bs P 0 HO.out w _ k1 (h.from_ k1) HN.out (by omega)).mono ?_
  rintro e w2 ⟨A2, c2, rfl, s2, k2, b2⟩
  go_wp2_with fail
  refine (refUnseal_out A n c bs P 0 HO.out w _ k2 (h.from_ k2) HN.out (by omega)).mono ?_
  rintro e w3 ⟨A3, c3, rfl, s3, k3, b3⟩
  have s23 := s2.up b3
  clear s2
  go_wp2_with fail
  refine (parse_at s N G HNN.out HG.out _).mono ?_
  rintro e w4 ⟨rfl, rfl⟩
  go_wp2_with fail
  refine (refParse_at s N G HNN.out HG.out (by omega) _).mono ?_
  rintro e w4 ⟨rfl, rfl⟩
  go_wp2_with fail
  refine (same_true _ _ P _ _ s23 s3).mono ?_
  rintro e w4 ⟨rfl, rfl⟩
  go_wp2_with fail
  refine (sealed_out A2 P.length c2 P w _ k3 s23 rfl (by have := HN.out; omega)).mono ?_
  rintro e w4 ⟨A4, c4, rfl, s4, k4, b4⟩
  rw [HSEAL.out] at s4 ⊢
  clear s23 s3
  go_wp2_with fail
  refine (same_true _ _ bs _ _ s4 (h.from_ k4)).mono ?_
  rintro e w5 ⟨rfl, rfl⟩
  obtain ⟨w5, rfl⟩ : ∃ x, x = w4 := ⟨_, rfl⟩
  have k5 := k4
  go_wp2_with fail
  refine (sealed_out A n c bs w _ k5 (h.from_ k5) HN.out (by omega)).mono ?_
  rintro e w6 ⟨A6, c6, rfl, s6, k6, b6⟩
  go_wp2_with fail
  refine (unseal_out A6 _ c6 (seal_ bs) bs 0 (open_seal bs) w _ k6 s6 rfl (by rw [seal_length]; have := HN.out; omega)).mono ?_
  rintro e w7 ⟨A7, c7, rfl, s7, k7, b7⟩
  clear s6
  go_wp2_with fail
  refine (print_any r.toNat _ r.isLt).mono ?_
  rintro e w8 ⟨rfl, b8⟩
  have k8 := k7.trans (b8.mono k7.size)
  have s8 := s7.up b8
  clear s7
  go_wp2_with fail
  refine (parse_printed r _).mono ?_
  rintro e w9 ⟨rfl, rfl⟩
  go_wp2_with fail
  refine (same_true _ _ bs _ _ s8 (h.from_ k8)).mono ?_
  rintro e w9 ⟨rfl, rfl⟩
  go_wp2_with fail
  refine (print_any r.toNat _ r.isLt).mono ?_
  rintro e w10 ⟨rfl, b10⟩
  have k10 := k8.trans (b10.mono k8.size)
  go_wp2_with fail
  refine (refPrint_any r.toNat _).mono ?_
  rintro e w11 ⟨rfl, rfl⟩
  go_wp2
  go_ret
  exact ⟨rfl, k10⟩

set_option maxRecDepth 100000 in
set_option maxHeartbeats 3200000 in
theorem digestOpen_badText (A : Option Addr) (n c : Nat) (bs : List UInt8) (r : BitVec 32) (s : List UInt8) (w : World) (h : Sl w w.heap.size (.slice A n c) bs) (HN : Hid (bs.length = n)) (h3 : n ≤ 300) (h6 : s.length ≤ 60) (P : List UInt8) (N G : Nat) (HNN : Hid (parseN s = N)) (HG : Hid (parseE s = G)) (E : Nat) (HO : Hid (open_ bs = (P, E))) (hE : E ≠ 0) (hG : G = 0) (HNL : Hid (N < 2 ^ 32)) (HD : Hid (digits N = s)) :
    Calls Try.prog 6 #[.slice A n c, .int .u32 (r.toNat : Int), .string (str s)] w fun e w' => e = .returned (.bool true) ∧ Below w.heap.size w w' := by
  have hsz : (str s).size = s.length := rfl
  go_enter Try.func6, Try.ntmps6
  go_wp2_with fail
  refine (awake_any _).mono ?_
  rintro e w1 ⟨rfl, k1⟩
  have t1 : decide (300 < (n : Int)) = false := by simp; omega
  have t2 : decide (60 < (s.length : Int)) = false := by simp; omega
  have t3 : ((E : Int) == 0) = false := by simp; omega
  subst hG
  go_wp2_with fail
  refine (unseal_out A n c bs P E HO.out w _ k1 (h.from_ k1) HN.out (by omega)).mono ?_
  rintro e w2 ⟨A2, c2, rfl, s2, k2, b2⟩
  go_wp2_with fail
  refine (refUnseal_out A n c bs P E HO.out w _ k2 (h.from_ k2) HN.out (by omega)).mono ?_
  rintro e w3 ⟨A3, c3, rfl, s3, k3, b3⟩
  have s23 := s2.up b3
  clear s2
  go_wp2_with fail
  refine (parse_at s N 0 HNN.out HG.out _).mono ?_
  rintro e w4 ⟨rfl, rfl⟩
  go_wp2_with fail
  refine (refParse_at s N 0 HNN.out HG.out (by omega) _).mono ?_
  rintro e w4 ⟨rfl, rfl⟩
  go_wp2_with fail
  refine (same_true _ _ P _ _ s23 s3).mono ?_
  rintro e w4 ⟨rfl, rfl⟩
  obtain ⟨w4, rfl⟩ : ∃ x, x = w3 := ⟨_, rfl⟩
  have k4 := k3
  go_wp2_with fail
  refine (print_back s N HNL.out HD.out _).mono ?_
  rintro e w5 ⟨rfl, b5⟩
  have k5 := k4.trans (b5.mono k4.size)
  go_wp2_with fail
  refine (sealed_out A n c bs w _ k5 (h.from_ k5) HN.out (by omega)).mono ?_
  rintro e w6 ⟨A6, c6, rfl, s6, k6, b6⟩
  go_wp2_with fail
  refine (unseal_out A6 _ c6 (seal_ bs) bs 0 (open_seal bs) w _ k6 s6 rfl (by rw [seal_length]; have := HN.out; omega)).mono ?_
  rintro e w7 ⟨A7, c7, rfl, s7, k7, b7⟩
  clear s6
  go_wp2_with fail
  refine (print_any r.toNat _ r.isLt).mono ?_
  rintro e w8 ⟨rfl, b8⟩
  have k8 := k7.trans (b8.mono k7.size)
  have s8 := s7.up b8
  clear s7
  go_wp2_with fail
  refine (parse_printed r _).mono ?_
  rintro e w9 ⟨rfl, rfl⟩
  go_wp2_with fail
  refine (same_true _ _ bs _ _ s8 (h.from_ k8)).mono ?_
  rintro e w9 ⟨rfl, rfl⟩
  go_wp2_with fail
  refine (print_any r.toNat _ r.isLt).mono ?_
  rintro e w10 ⟨rfl, b10⟩
  have k10 := k8.trans (b10.mono k8.size)
  go_wp2_with fail
  refine (refPrint_any r.toNat _).mono ?_
  rintro e w11 ⟨rfl, rfl⟩
  go_wp2
  go_ret
  exact ⟨rfl, k10⟩

set_option maxRecDepth 100000 in
set_option maxHeartbeats 3200000 in
theorem digestOpen_badNoText (A : Option Addr) (n c : Nat) (bs : List UInt8) (r : BitVec 32) (s : List UInt8) (w : World) (h : Sl w w.heap.size (.slice A n c) bs) (HN : Hid (bs.length = n)) (h3 : n ≤ 300) (h6 : s.length ≤ 60) (P : List UInt8) (N G : Nat) (HNN : Hid (parseN s = N)) (HG : Hid (parseE s = G)) (E : Nat) (HO : Hid (open_ bs = (P, E))) (hE : E ≠ 0) (hG : G ≠ 0) :
    Calls Try.prog 6 #[.slice A n c, .int .u32 (r.toNat : Int), .string (str s)] w fun e w' => e = .returned (.bool true) ∧ Below w.heap.size w w' := by
  have hsz : (str s).size = s.length := rfl
  go_enter Try.func6, Try.ntmps6
  go_wp2_with fail
  refine (awake_any _).mono ?_
  rintro e w1 ⟨rfl, k1⟩
  have t1 : decide (300 < (n : Int)) = false := by simp; omega
  have t2 : decide (60 < (s.length : Int)) = false := by simp; omega
  have t3 : ((E : Int) == 0) = false := by simp; omega
  have t4 : ((G : Int) == 0) = false := by simp; omega
  go_wp2_with fail
  refine (unseal_out A n c bs P E HO.out w _ k1 (h.from_ k1) HN.out (by omega)).mono ?_
  rintro e w2 ⟨A2, c2, rfl, s2, k2, b2⟩
  go_wp2_with fail
  refine (refUnseal_out A n c bs P E HO.out w _ k2 (h.from_ k2) HN.out (by omega)).mono ?_
  rintro e w3 ⟨A3, c3, rfl, s3, k3, b3⟩
  have s23 := s2.up b3
  clear s2
  go_wp2_with fail
  refine (parse_at s N G HNN.out HG.out _).mono ?_
  rintro e w4 ⟨rfl, rfl⟩
  go_wp2_with fail
  refine (refParse_at s N G HNN.out HG.out (by omega) _).mono ?_
  rintro e w4 ⟨rfl, rfl⟩
  go_wp2_with fail
  refine (same_true _ _ P _ _ s23 s3).mono ?_
  rintro e w4 ⟨rfl, rfl⟩
  obtain ⟨w4, rfl⟩ : ∃ x, x = w3 := ⟨_, rfl⟩
  have k4 := k3
  obtain ⟨w5, rfl⟩ : ∃ x, x = w4 := ⟨_, rfl⟩
  have k5 := k4
  go_wp2_with fail
  refine (sealed_out A n c bs w _ k5 (h.from_ k5) HN.out (by omega)).mono ?_
  rintro e w6 ⟨A6, c6, rfl, s6, k6, b6⟩
  go_wp2_with fail
  refine (unseal_out A6 _ c6 (seal_ bs) bs 0 (open_seal bs) w _ k6 s6 rfl (by rw [seal_length]; have := HN.out; omega)).mono ?_
  rintro e w7 ⟨A7, c7, rfl, s7, k7, b7⟩
  clear s6
  go_wp2_with fail
  refine (print_any r.toNat _ r.isLt).mono ?_
  rintro e w8 ⟨rfl, b8⟩
  have k8 := k7.trans (b8.mono k7.size)
  have s8 := s7.up b8
  clear s7
  go_wp2_with fail
  refine (parse_printed r _).mono ?_
  rintro e w9 ⟨rfl, rfl⟩
  go_wp2_with fail
  refine (same_true _ _ bs _ _ s8 (h.from_ k8)).mono ?_
  rintro e w9 ⟨rfl, rfl⟩
  go_wp2_with fail
  refine (print_any r.toNat _ r.isLt).mono ?_
  rintro e w10 ⟨rfl, b10⟩
  have k10 := k8.trans (b10.mono k8.size)
  go_wp2_with fail
  refine (refPrint_any r.toNat _).mono ?_
  rintro e w11 ⟨rfl, rfl⟩
  go_wp2
  go_ret
  exact ⟨rfl, k10⟩

set_option maxRecDepth 100000 in
set_option maxHeartbeats 800000 in
theorem digestOpen_long (A : Option Addr) (n c : Nat) (r : BitVec 32) (s : List UInt8) (w : World) (hl : 300 < n ∨ 60 < s.length) :
    Calls Try.prog 6 #[.slice A n c, .int .u32 (r.toNat : Int), .string (str s)] w fun e w' => e = .returned (.bool true) ∧ Below w.heap.size w w' := by
  have hsz : (str s).size = s.length := rfl
  go_enter Try.func6, Try.ntmps6
  go_wp2_with fail
  refine (awake_any _).mono ?_
  rintro e w1 ⟨rfl, k1⟩
  by_cases h3 : n ≤ 300
  · have t1 : decide (300 < (n : Int)) = false := by simp; omega
    have t2 : decide (60 < (s.length : Int)) = true := by simp; omega
    clear hl
    go_wp2
    go_ret
    exact ⟨rfl, k1⟩
  · have t1 : decide (300 < (n : Int)) = true := by simp; omega
    clear hl
    go_wp2
    go_ret
    exact ⟨rfl, k1⟩

theorem digestOpen_any (A : Option Addr) (n c : Nat) (bs : List UInt8) (r : BitVec 32) (s : List UInt8) (w : World) (h : Sl w w.heap.size (.slice A n c) bs) (hn : bs.length = n) :
    Calls Try.prog 6 #[.slice A n c, .int .u32 (r.toNat : Int), .string (str s)] w fun e w' => e = .returned (.bool true) ∧ Below w.heap.size w w' := by
  by_cases h3 : n ≤ 300
  · by_cases h6 : s.length ≤ 60
    · rcases open_cases bs with ⟨P, ho, hseal, hP⟩ | ⟨E, ho, hE, hE10⟩
      · by_cases hG : parseE s = 0
        · exact digestOpen_goodText A n c bs r s w h hn h3 h6 P _ _ rfl rfl ho hseal hP hG (parseN_lt s) (print_parse hG)
        · exact digestOpen_goodNoText A n c bs r s w h hn h3 h6 P _ _ rfl rfl ho hseal hP hG
      · by_cases hG : parseE s = 0
        · exact digestOpen_badText A n c bs r s w h hn h3 h6 [] _ _ rfl rfl E ho hE hG (parseN_lt s) (print_parse hG)
        · exact digestOpen_badNoText A n c bs r s w h hn h3 h6 [] _ _ rfl rfl E ho hE hG
    · exact digestOpen_long A n c r s w (.inr (by omega))
  · exact digestOpen_long A n c r s w (.inl (by omega))

theorem digestOpen_at (A : Option Addr) (n c : Nat) (bs : List UInt8) (r : BitVec 32) (s : ByteArray) (w : World) (h : Sl w w.heap.size (.slice A n c) bs) (hn : bs.length = n) :
    Calls Try.prog 6 #[.slice A n c, .int .u32 (r.toNat : Int), .string s] w fun e w' => e = .returned (.bool true) ∧ Below w.heap.size w w' := by
  have h1 := digestOpen_any A n c bs r s.data.toList w h hn
  have e : str s.data.toList = s := by
    unfold str
    cases s
    simp
  rwa [e] at h1

end Go.Proofs.Ytjmmhgdafjdmdaa
