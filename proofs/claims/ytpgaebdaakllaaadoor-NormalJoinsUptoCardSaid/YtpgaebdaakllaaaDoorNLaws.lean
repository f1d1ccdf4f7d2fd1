/-
  The bodies of the statements NormalForms, NormalTwice, NormalStrips.
  The bodies of the statements NormalEqual, NormalJoins.
  The bodies of the statements NormalJoins, NormalLetters.
  The body of the statement NormalLetters.
  The body of the statement NormalOrder.
  The laws' bodies at strings as the model holds them.
  The body of NormalOrder at a place as the model holds it.
-/
import Derived.Test.YtpgaebdaakllaaaDoorNMadeO
namespace Go.Proofs.YtpgaebdaakllaaaDoor
open Go.RowKit

theorem same_str (a : List UInt8) : ((str a).toList == (str a).toList) = true := beq_self_eq_true _

set_option maxRecDepth 20000 in
set_option maxHeartbeats 3200000 in
theorem normalForms_v (s : List UInt8) (w : World) (hS : Ready w) (hlen : s.length ≤ 9223372036854775807) :
    Calls Tryd.prog 3 #[.string (str s)] w fun e w' => e = .returned (.bool true) ∧ Below w.heap.size w w' := by
  have hsz : (str s).size = s.length := rfl
  by_cases h5 : 80 < s.length
  · have t1 : decide (80 < (s.length : Int)) = true := by simp; omega
    go_enter Tryd.func3, Tryd.ntmps3
    go_wp2_with fail
    refine (awake_any _ hS).mono ?_
    rintro e w1 ⟨rfl, k1⟩
    go_wp2
    go_ret
    exact ⟨rfl, k1⟩
  have t1 : decide (80 < (s.length : Int)) = false := by simp; omega
  have hs : s.length ≤ 5000 := by omega
  obtain ⟨d, hvd⟩ : ∃ x, nD s = x := ⟨_, rfl⟩
  have Hd := Lib.hid hvd
  obtain ⟨c, hvc⟩ : ∃ x, nC s = x := ⟨_, rfl⟩
  have Hc := Lib.hid hvc
  obtain ⟨p, hvp⟩ : ∃ x, nStrip s = x := ⟨_, rfl⟩
  have Hp := Lib.hid hvp
  obtain ⟨m, hvm⟩ : ∃ x, nMarks s = x := ⟨_, rfl⟩
  have Hm := Lib.hid hvm
  obtain ⟨i, hvi⟩ : ∃ x, nIs s = x := ⟨_, rfl⟩
  have Hi := Lib.hid hvi
  have qd := same_str d
  have qc := same_str c
  have qp := same_str p
  clear hvd hvc hvp hvm hvi
  go_enter Tryd.func3, Tryd.ntmps3
  go_wp2_with fail
  refine (awake_any _ hS).mono ?_
  rintro e w1 ⟨rfl, k1⟩
  go_wp2_with fail
  refine (prDecompose_at w hS s d _ k1 hs Hd.out).mono ?_
  rintro e w2 ⟨rfl, k2, n2⟩
  go_wp2_with fail
  refine (refDecompose_at w s d _ k2 hs Hd.out).mono ?_
  rintro e w3 ⟨rfl, k3, n3⟩
  go_wp2_with fail
  refine (prCompose_at w hS s c _ k3 hs Hc.out).mono ?_
  rintro e w4 ⟨rfl, k4, n4⟩
  go_wp2_with fail
  refine (refCompose_at w s c _ k4 hs Hc.out).mono ?_
  rintro e w5 ⟨rfl, k5, n5⟩
  go_wp2_with fail
  refine (prIs_at w hS s i _ k5 hs Hi.out).mono ?_
  rintro e w6 ⟨rfl, k6, n6⟩
  go_wp2_with fail
  refine (refIs_at w s i _ k6 hs Hi.out).mono ?_
  rintro e w7 ⟨rfl, k7, n7⟩
  go_wp2_with fail
  refine (prStrip_at w hS s p _ k7 hs Hp.out).mono ?_
  rintro e w8 ⟨rfl, k8, n8⟩
  go_wp2_with fail
  refine (refStrip_at w s p _ k8 hs Hp.out).mono ?_
  rintro e w9 ⟨rfl, k9, n9⟩
  go_wp2_with fail
  refine (prMarks_at w hS s m _ k9 hs Hm.out).mono ?_
  rintro e w10 ⟨rfl, k10, n10⟩
  go_wp2_with fail
  refine (refMarks_at w s m _ k10 hs Hm.out).mono ?_
  rintro e w11 ⟨rfl, k11, n11⟩
  go_wp2
  go_ret
  exact ⟨rfl, k11⟩

set_option maxRecDepth 20000 in
set_option maxHeartbeats 3200000 in
theorem normalTwice_v (s : List UInt8) (w : World) (hS : Ready w) (hlen : s.length ≤ 9223372036854775807) :
    Calls Tryd.prog 4 #[.string (str s)] w fun e w' => e = .returned (.bool true) ∧ Below w.heap.size w w' := by
  have hsz : (str s).size = s.length := rfl
  by_cases h5 : 80 < s.length
  · have t1 : decide (80 < (s.length : Int)) = true := by simp; omega
    go_enter Tryd.func4, Tryd.ntmps4
    go_wp2_with fail
    refine (awake_any _ hS).mono ?_
    rintro e w1 ⟨rfl, k1⟩
    go_wp2
    go_ret
    exact ⟨rfl, k1⟩
  have t1 : decide (80 < (s.length : Int)) = false := by simp; omega
  have hs : s.length ≤ 5000 := by omega
  obtain ⟨d, hvd⟩ : ∃ x, nD s = x := ⟨_, rfl⟩
  obtain ⟨c, hvc⟩ : ∃ x, nC s = x := ⟨_, rfl⟩
  have Hd := Lib.hid hvd
  have Hc := Lib.hid hvc
  have hld : d.length ≤ 5000 := by rw [← hvd]; have := nD_len s; omega
  have hlc : c.length ≤ 5000 := by rw [← hvc]; have := nC_len s; omega
  have Hdd : Hid (nD d = d) := Lib.hid (by rw [← hvd, nD_nD])
  have Hcc : Hid (nC c = c) := Lib.hid (by rw [← hvc, nC_nC])
  have Hdc : Hid (nD c = d) := Lib.hid (by rw [← hvc, ← hvd, nD_nC])
  have Hcd : Hid (nC d = c) := Lib.hid (by rw [← hvc, ← hvd, nC_nD])
  have Hi : Hid (nIs c = true) := Lib.hid (by rw [← hvc, nIs_nC])
  have qd := same_str d
  have qc := same_str c
  clear hvd hvc
  cases hce : (str c).toList.isEmpty
  all_goals
    go_enter Tryd.func4, Tryd.ntmps4
    go_wp2_with fail
    refine (awake_any _ hS).mono ?_
    rintro e w1 ⟨rfl, k1⟩
    go_wp2_with fail
    refine (prDecompose_at w hS s d _ k1 hs Hd.out).mono ?_
    rintro e w2 ⟨rfl, k2, n2⟩
    go_wp2_with fail
    refine (prCompose_at w hS s c _ k2 hs Hc.out).mono ?_
    rintro e w3 ⟨rfl, k3, n3⟩
    go_wp2_with fail
    refine (prDecompose_at w hS d d _ k3 hld Hdd.out).mono ?_
    rintro e w4 ⟨rfl, k4, n4⟩
    go_wp2_with fail
    refine (prCompose_at w hS c c _ k4 hlc Hcc.out).mono ?_
    rintro e w5 ⟨rfl, k5, n5⟩
    go_wp2_with fail
    refine (prDecompose_at w hS c d _ k5 hlc Hdc.out).mono ?_
    rintro e w6 ⟨rfl, k6, n6⟩
    go_wp2_with fail
    refine (prCompose_at w hS d c _ k6 hld Hcd.out).mono ?_
    rintro e w7 ⟨rfl, k7, n7⟩
    first
      | (go_wp2; go_ret; exact ⟨rfl, k7⟩)
      | (go_wp2_with fail; refine (prIs_at w hS c true _ k7 hlc Hi.out).mono ?_; rintro e w9 ⟨rfl, k9, n9⟩; go_wp2; go_ret; exact ⟨rfl, k9⟩)

set_option maxRecDepth 20000 in
set_option maxHeartbeats 3200000 in
theorem normalStrips_v (s t : List UInt8) (w : World) (hS : Ready w) (hlen : s.length ≤ 9223372036854775807) (hlen2 : t.length ≤ 9223372036854775807) :
    Calls Tryd.prog 8 #[.string (str s), .string (str t)] w fun e w' => e = .returned (.bool true) ∧ Below w.heap.size w w' := by
  have hsz : (str s).size = s.length := rfl
  have hsz2 : (str t).size = t.length := rfl
  by_cases h5 : 40 < s.length
  · have t1 : decide (40 < (s.length : Int)) = true := by simp; omega
    go_enter Tryd.func8, Tryd.ntmps8
    go_wp2_with fail
    refine (awake_any _ hS).mono ?_
    rintro e w1 ⟨rfl, k1⟩
    go_wp2
    go_ret
    exact ⟨rfl, k1⟩
  have t1 : decide (40 < (s.length : Int)) = false := by simp; omega
  have hs : s.length ≤ 5000 := by omega
  by_cases h6 : 40 < t.length
  · have t2 : decide (40 < (t.length : Int)) = true := by simp; omega
    go_enter Tryd.func8, Tryd.ntmps8
    go_wp2_with fail
    refine (awake_any _ hS).mono ?_
    rintro e w1 ⟨rfl, k1⟩
    go_wp2
    go_ret
    exact ⟨rfl, k1⟩
  have t2 : decide (40 < (t.length : Int)) = false := by simp; omega
  have ht : t.length ≤ 5000 := by omega
  obtain ⟨x, hvx⟩ : ∃ x, nStrip s = x := ⟨_, rfl⟩
  obtain ⟨y, hvy⟩ : ∃ x, nStrip t = x := ⟨_, rfl⟩
  have Hx := Lib.hid hvx
  have Hy := Lib.hid hvy
  have hlx : x.length ≤ 5000 := by rw [← hvx]; have := nStrip_len s; omega
  have Hm : Hid (nMarks x = 0) := Lib.hid (by rw [← hvx, nMarks_strip])
  have Hxx : Hid (nStrip x = x) := Lib.hid (by rw [← hvx, nStrip_strip])
  have Hdx : Hid (nD x = x) := Lib.hid (by rw [← hvx, nD_strip])
  have qx := same_str x
  cases he : nEq s t with
  | false =>
    have He := Lib.hid he
    clear hvx hvy he
    go_enter Tryd.func8, Tryd.ntmps8
    go_wp2_with fail
    refine (awake_any _ hS).mono ?_
    rintro e w1 ⟨rfl, k1⟩
    go_wp2_with fail
    refine (prStrip_at w hS s x _ k1 hs Hx.out).mono ?_
    rintro e w2 ⟨rfl, k2, n2⟩
    go_wp2_with fail
    refine (prMarks_at w hS x 0 _ k2 hlx Hm.out).mono ?_
    rintro e w3 ⟨rfl, k3, n3⟩
    go_wp2_with fail
    refine (prStrip_at w hS x x _ k3 hlx Hxx.out).mono ?_
    rintro e w4 ⟨rfl, k4, n4⟩
    go_wp2_with fail
    refine (prDecompose_at w hS x x _ k4 hlx Hdx.out).mono ?_
    rintro e w5 ⟨rfl, k5, n5⟩
    go_wp2_with fail
    refine (prEqual_at w hS s t _ _ k5 hs ht He.out).mono ?_
    rintro e w6 ⟨rfl, k6, n6⟩
    go_wp2
    go_ret
    exact ⟨rfl, k6⟩
  | true =>
    have He := Lib.hid he
    have hyx : y = x := by rw [← hvx, ← hvy]; exact nStrip_eq he
    rw [hyx] at Hy
    clear hvx hvy he hyx
    go_enter Tryd.func8, Tryd.ntmps8
    go_wp2_with fail
    refine (awake_any _ hS).mono ?_
    rintro e w1 ⟨rfl, k1⟩
    go_wp2_with fail
    refine (prStrip_at w hS s x _ k1 hs Hx.out).mono ?_
    rintro e w2 ⟨rfl, k2, n2⟩
    go_wp2_with fail
    refine (prMarks_at w hS x 0 _ k2 hlx Hm.out).mono ?_
    rintro e w3 ⟨rfl, k3, n3⟩
    go_wp2_with fail
    refine (prStrip_at w hS x x _ k3 hlx Hxx.out).mono ?_
    rintro e w4 ⟨rfl, k4, n4⟩
    go_wp2_with fail
    refine (prDecompose_at w hS x x _ k4 hlx Hdx.out).mono ?_
    rintro e w5 ⟨rfl, k5, n5⟩
    go_wp2_with fail
    refine (prEqual_at w hS s t _ _ k5 hs ht He.out).mono ?_
    rintro e w6 ⟨rfl, k6, n6⟩
    go_wp2_with fail
    refine (prStrip_at w hS t x _ k6 ht Hy.out).mono ?_
    rintro e w7 ⟨rfl, k7, n7⟩
    go_wp2
    go_ret
    exact ⟨rfl, k7⟩

end Go.Proofs.YtpgaebdaakllaaaDoor

namespace Go.Proofs.YtpgaebdaakllaaaDoor
open Go.RowKit

set_option maxRecDepth 20000 in
set_option maxHeartbeats 3200000 in
theorem normalEqual_v (s t : List UInt8) (w : World) (hS : Ready w) (hlen : s.length ≤ 9223372036854775807) (hlen2 : t.length ≤ 9223372036854775807) :
    Calls Tryd.prog 5 #[.string (str s), .string (str t)] w fun e w' => e = .returned (.bool true) ∧ Below w.heap.size w w' := by
  have hsz : (str s).size = s.length := rfl
  have hsz2 : (str t).size = t.length := rfl
  by_cases h5 : 40 < s.length
  · have t1 : decide (40 < (s.length : Int)) = true := by simp; omega
    go_enter Tryd.func5, Tryd.ntmps5
    go_wp2_with fail
    refine (awake_any _ hS).mono ?_
    rintro e w1 ⟨rfl, k1⟩
    go_wp2
    go_ret
    exact ⟨rfl, k1⟩
  have t1 : decide (40 < (s.length : Int)) = false := by simp; omega
  have hs : s.length ≤ 5000 := by omega
  by_cases h6 : 40 < t.length
  · have t2 : decide (40 < (t.length : Int)) = true := by simp; omega
    go_enter Tryd.func5, Tryd.ntmps5
    go_wp2_with fail
    refine (awake_any _ hS).mono ?_
    rintro e w1 ⟨rfl, k1⟩
    go_wp2
    go_ret
    exact ⟨rfl, k1⟩
  have t2 : decide (40 < (t.length : Int)) = false := by simp; omega
  have ht : t.length ≤ 5000 := by omega
  obtain ⟨e0, he0⟩ : ∃ x, nEq s t = x := ⟨_, rfl⟩
  have He := Lib.hid he0
  have q0 : (e0 != e0) = false := by simp
  obtain ⟨l, hl⟩ : ∃ x, nL s = x := ⟨_, rfl⟩
  obtain ⟨m, hm⟩ : ∃ x, nL t = x := ⟨_, rfl⟩
  have HL := Lib.hid hl
  have HM := Lib.hid hm
  clear hl hm
  cases hbs : (decR s).isSome with
  | false =>
    have HB := Lib.hid hbs
    obtain ⟨b2, hb2⟩ : ∃ x, (decR t).isSome = x := ⟨_, rfl⟩
    have HB2 := Lib.hid hb2
    clear he0 hbs hb2
    go_enter Tryd.func5, Tryd.ntmps5
    go_wp2_with fail
    refine (awake_any _ hS).mono ?_
    rintro e w1 ⟨rfl, k1⟩
    go_wp2_with fail
    refine (prEqual_at w hS s t e0 _ k1 hs ht He.out).mono ?_
    rintro e w2 ⟨rfl, k2, n2⟩
    go_wp2_with fail
    refine (refEqual_at w s t e0 _ k2 hs ht He.out).mono ?_
    rintro e w3 ⟨rfl, k3, n3⟩
    go_wp2_with fail
    refine (dec_at w s l _ _ k3 hs HL.out HB.out).mono ?_
    rintro e w4 ⟨A1, c1, rfl, h1, k4, n4⟩
    go_wp2_with fail
    refine (dec_at w t m _ _ k4 ht HM.out HB2.out).mono ?_
    rintro e w5 ⟨A2, c2, rfl, h2, k5, n5⟩
    go_wp2
    go_ret
    exact ⟨rfl, k5⟩
  | true =>
    have HB := Lib.hid hbs
    cases hb2 : (decR t).isSome with
    | false =>
      have HB2 := Lib.hid hb2
      clear he0 hbs hb2
      go_enter Tryd.func5, Tryd.ntmps5
      go_wp2_with fail
      refine (awake_any _ hS).mono ?_
      rintro e w1 ⟨rfl, k1⟩
      go_wp2_with fail
      refine (prEqual_at w hS s t e0 _ k1 hs ht He.out).mono ?_
      rintro e w2 ⟨rfl, k2, n2⟩
      go_wp2_with fail
      refine (refEqual_at w s t e0 _ k2 hs ht He.out).mono ?_
      rintro e w3 ⟨rfl, k3, n3⟩
      go_wp2_with fail
      refine (dec_at w s l _ _ k3 hs HL.out HB.out).mono ?_
      rintro e w4 ⟨A1, c1, rfl, h1, k4, n4⟩
      go_wp2_with fail
      refine (dec_at w t m _ _ k4 ht HM.out HB2.out).mono ?_
      rintro e w5 ⟨A2, c2, rfl, h2, k5, n5⟩
      go_wp2
      go_ret
      exact ⟨rfl, k5⟩
    | true =>
      have HB2 := Lib.hid hb2
      obtain ⟨x, hvx⟩ : ∃ x, nC s = x := ⟨_, rfl⟩
      obtain ⟨y, hvy⟩ : ∃ x, nC t = x := ⟨_, rfl⟩
      have Hx := Lib.hid hvx
      have Hy := Lib.hid hvy
      have hq : ((str x).toList == (str y).toList) = e0 := by rw [str_beq, ← hvx, ← hvy, ← he0, nEq_nC hbs hb2]
      have q3 : (e0 == e0) = true := beq_self_eq_true _
      clear he0 hbs hb2 hvx hvy
      go_enter Tryd.func5, Tryd.ntmps5
      go_wp2_with fail
      refine (awake_any _ hS).mono ?_
      rintro e w1 ⟨rfl, k1⟩
      go_wp2_with fail
      refine (prEqual_at w hS s t e0 _ k1 hs ht He.out).mono ?_
      rintro e w2 ⟨rfl, k2, n2⟩
      go_wp2_with fail
      refine (refEqual_at w s t e0 _ k2 hs ht He.out).mono ?_
      rintro e w3 ⟨rfl, k3, n3⟩
      go_wp2_with fail
      refine (dec_at w s l _ _ k3 hs HL.out HB.out).mono ?_
      rintro e w4 ⟨A1, c1, rfl, h1, k4, n4⟩
      go_wp2_with fail
      refine (dec_at w t m _ _ k4 ht HM.out HB2.out).mono ?_
      rintro e w5 ⟨A2, c2, rfl, h2, k5, n5⟩
      go_wp2_with fail
      refine (prEqual_at w hS s t e0 _ k5 hs ht He.out).mono ?_
      rintro e w6 ⟨rfl, k6, n6⟩
      go_wp2_with fail
      refine (prCompose_at w hS s x _ k6 hs Hx.out).mono ?_
      rintro e w7 ⟨rfl, k7, n7⟩
      go_wp2_with fail
      refine (prCompose_at w hS t y _ k7 ht Hy.out).mono ?_
      rintro e w8 ⟨rfl, k8, n8⟩
      go_wp2
      go_ret
      exact ⟨rfl, k8⟩

end Go.Proofs.YtpgaebdaakllaaaDoor

namespace Go.Proofs.YtpgaebdaakllaaaDoor
open Go.RowKit

/-- Decode of the reference, of long strings too. -/
theorem dec_big_at (W : World) (s : List UInt8) (l : List Nat) (N : Nat) (b : Bool) (w : World) (hk : Below W.heap.size W w) (hs : s.length ≤ 100000000000) (hl : nL s = l) (hN : l.length = N) (hb : (decR s).isSome = b) :
    Calls Tryd.prog 23 #[.string (str s)] w fun e w' => ∃ A c, e = .returned (.tuple #[.slice A N c, .bool b]) ∧ Arr nv w' w'.heap.size (.slice A N c) l ∧ Below W.heap.size W w' ∧ Below w.heap.size w w' := by
  subst hl hb hN
  refine (refDecode_any s w hs).mono ?_
  rintro e w' ⟨h1, h2⟩
  unfold nL
  cases hr : decR s with
  | none =>
    rw [hr] at h1
    exact ⟨none, 0, h1, Arr.nil_ _ _, below_next hk h2, h2⟩
  | some l =>
    rw [hr] at h1
    obtain ⟨v, rfl, hown⟩ := h1
    have hA := Arr.of_own hown
    obtain ⟨A, c, rfl⟩ := hA.form
    exact ⟨A, c, rfl, hA, below_next hk h2, h2⟩

set_option maxRecDepth 20000 in
set_option maxHeartbeats 1600000 in
theorem marks_any (c : Nat) (w : World) :
    Calls Tryd.prog 25 #[.int .i64 (c : Int)] w fun e w' => e = .returned (.int .i64 (clM c : Int)) ∧ ∃ q, w' = w.drewN q := by
  have hcl := class_any (c : Int) w
  obtain ⟨a, ha⟩ : ∃ a, a = (clsR (c : Int)).1 := ⟨_, rfl⟩
  obtain ⟨k, hk⟩ : ∃ k, k = (clsR (c : Int)).2 := ⟨_, rfl⟩
  rw [← ha, ← hk] at hcl
  have HC := Lib.hid hcl
  obtain ⟨R, hR⟩ : ∃ R, clM c = R := ⟨_, rfl⟩
  rw [hR]
  by_cases h3 : c = 807
  · have t2 : ((c : Int) == 807) = true := eqb_true (by omega)
    have HE : Hid (R = 1) := Lib.hid (by rw [← hR, h3]; decide +kernel)
    clear hR h3 hcl ha hk
    go_enter Tryd.func25, Tryd.ntmps25
    go_wp2
    go_ret
    rw [HE.out]
    exact ⟨rfl, 0, rfl⟩
  have t2 : ((c : Int) == 807) = false := eqb_false (by omega)
  by_cases h4 : c = 808
  · have t3 : ((c : Int) == 808) = true := eqb_true (by omega)
    have HE : Hid (R = 1) := Lib.hid (by rw [← hR, h4]; decide +kernel)
    clear hR h3 h4 hcl ha hk
    go_enter Tryd.func25, Tryd.ntmps25
    go_wp2
    go_ret
    rw [HE.out]
    exact ⟨rfl, 0, rfl⟩
  have t3 : ((c : Int) == 808) = false := eqb_false (by omega)
  by_cases h5 : c = 803
  · have t4 : ((c : Int) == 803) = true := eqb_true (by omega)
    have HE : Hid (R = 2) := Lib.hid (by rw [← hR, h5]; decide +kernel)
    clear hR h3 h4 h5 hcl ha hk
    go_enter Tryd.func25, Tryd.ntmps25
    go_wp2
    go_ret
    rw [HE.out]
    exact ⟨rfl, 0, rfl⟩
  have t4 : ((c : Int) == 803) = false := eqb_false (by omega)
  unfold clM kindR at hR
  rw [← hk, beq_false h3, beq_false h4, beq_false h5] at hR
  by_cases h2 : k = 2
  · have t5 : ((k : Int) == 2) = true := by rw [h2]; rfl
    have HE : Hid (R = 3) := Lib.hid (by rw [← hR, if_pos h2]; rfl)
    clear hR h3 h4 h5 hcl ha hk h2
    go_enter Tryd.func25, Tryd.ntmps25
    go_wp2_with fail
    refine HC.out.mono ?_
    rintro e w1 ⟨rfl, q, rfl⟩
    unfold two
    go_wp2
    go_ret
    rw [HE.out]
    exact ⟨rfl, q, rfl⟩
  · have t5 : ((k : Int) == 2) = false := eqb_false (by omega)
    have HE : Hid (R = 0) := Lib.hid (by rw [← hR, if_neg h2])
    clear hR h3 h4 h5 hcl ha hk h2
    go_enter Tryd.func25, Tryd.ntmps25
    go_wp2_with fail
    refine HC.out.mono ?_
    rintro e w1 ⟨rfl, q, rfl⟩
    unfold two
    go_wp2
    go_ret
    rw [HE.out]
    exact ⟨rfl, q, rfl⟩

set_option maxRecDepth 20000 in
set_option maxHeartbeats 3200000 in
theorem normalJoins_v (s t : List UInt8) (w : World) (hS : Ready w) (hlen : s.length ≤ 100000000000) (hlen2 : t.length ≤ 100000000000) :
    Calls Tryd.prog 7 #[.string (str s), .string (str t)] w fun e w' => e = .returned (.bool true) ∧ Below w.heap.size w w' := by
  have hsz : (str s).size = s.length := rfl
  have hsz2 : (str t).size = t.length := rfl
  obtain ⟨l, hl⟩ : ∃ x, nL s = x := ⟨_, rfl⟩
  obtain ⟨m, hm⟩ : ∃ x, nL t = x := ⟨_, rfl⟩
  obtain ⟨N, hN⟩ : ∃ x, l.length = x := ⟨_, rfl⟩
  obtain ⟨M, hM⟩ : ∃ x, m.length = x := ⟨_, rfl⟩
  obtain ⟨b, hb⟩ : ∃ x, (decR s).isSome = x := ⟨_, rfl⟩
  obtain ⟨b2, hb2⟩ : ∃ x, (decR t).isSome = x := ⟨_, rfl⟩
  have HL := Lib.hid hl
  have HM := Lib.hid hm
  have HN := Lib.hid hN
  have HMN := Lib.hid hM
  have HB := Lib.hid hb
  have HB2 := Lib.hid hb2
  clear hl hm hN hM hb hb2
  by_cases h5 : 40 < s.length
  · have t1 : decide (40 < (s.length : Int)) = true := by simp; omega
    go_enter Tryd.func7, Tryd.ntmps7
    go_wp2_with fail
    refine (awake_any _ hS).mono ?_
    rintro e w1 ⟨rfl, k1⟩
    go_wp2_with fail
    refine (dec_big_at w s l N _ _ k1 hlen HL.out HN.out HB.out).mono ?_
    rintro e w2 ⟨A1, c1, rfl, h1, k2, n2⟩
    go_wp2_with fail
    refine (dec_big_at w t m M _ _ k2 hlen2 HM.out HMN.out HB2.out).mono ?_
    rintro e w3 ⟨A2, c2, rfl, h2, k3, n3⟩
    go_wp2
    go_ret
    exact ⟨rfl, k3⟩
  have t1 : decide (40 < (s.length : Int)) = false := by simp; omega
  by_cases h6 : 40 < t.length
  · have t2 : decide (40 < (t.length : Int)) = true := by simp; omega
    go_enter Tryd.func7, Tryd.ntmps7
    go_wp2_with fail
    refine (awake_any _ hS).mono ?_
    rintro e w1 ⟨rfl, k1⟩
    go_wp2_with fail
    refine (dec_big_at w s l N _ _ k1 hlen HL.out HN.out HB.out).mono ?_
    rintro e w2 ⟨A1, c1, rfl, h1, k2, n2⟩
    go_wp2_with fail
    refine (dec_big_at w t m M _ _ k2 hlen2 HM.out HMN.out HB2.out).mono ?_
    rintro e w3 ⟨A2, c2, rfl, h2, k3, n3⟩
    go_wp2
    go_ret
    exact ⟨rfl, k3⟩
  have t2 : decide (40 < (t.length : Int)) = false := by simp; omega
  have hs : s.length ≤ 5000 := by omega
  have ht : t.length ≤ 5000 := by omega
  have hst : (s ++ t).length ≤ 5000 := by rw [List.length_append]; omega
  cases b with
  | false =>
    go_enter Tryd.func7, Tryd.ntmps7
    go_wp2_with fail
    refine (awake_any _ hS).mono ?_
    rintro e w1 ⟨rfl, k1⟩
    go_wp2_with fail
    refine (dec_big_at w s l N _ _ k1 hlen HL.out HN.out HB.out).mono ?_
    rintro e w2 ⟨A1, c1, rfl, h1, k2, n2⟩
    go_wp2_with fail
    refine (dec_big_at w t m M _ _ k2 hlen2 HM.out HMN.out HB2.out).mono ?_
    rintro e w3 ⟨A2, c2, rfl, h2, k3, n3⟩
    go_wp2
    go_ret
    exact ⟨rfl, k3⟩
  | true =>
    cases b2 with
    | false =>
      go_enter Tryd.func7, Tryd.ntmps7
      go_wp2_with fail
      refine (awake_any _ hS).mono ?_
      rintro e w1 ⟨rfl, k1⟩
      go_wp2_with fail
      refine (dec_big_at w s l N _ _ k1 hlen HL.out HN.out HB.out).mono ?_
      rintro e w2 ⟨A1, c1, rfl, h1, k2, n2⟩
      go_wp2_with fail
      refine (dec_big_at w t m M _ _ k2 hlen2 HM.out HMN.out HB2.out).mono ?_
      rintro e w3 ⟨A2, c2, rfl, h2, k3, n3⟩
      go_wp2
      go_ret
      exact ⟨rfl, k3⟩
    | true =>
      have hml := HMN.out
      have hhead : ∀ z, m[0]? = some z → (nL t).head? = some z := fun z hz => by rw [HM.out, List.head?_eq_getElem?]; exact hz
      by_cases hM0 : M = 0
      · have t3 : decide (0 < M) = false := by simp; omega
        have t3' : decide ((0 : Int) < (M : Int)) = false := by simp; omega
        have hh : ∀ c, (nL t).head? = some c → clM c = 0 := fun c hc => by
          rw [HM.out, List.length_eq_zero_iff.1 (hml.trans hM0)] at hc
          cases hc
        obtain ⟨x, hx⟩ : ∃ x, nD s = x := ⟨_, rfl⟩
        obtain ⟨y', hy'⟩ : ∃ x, nD t = x := ⟨_, rfl⟩
        obtain ⟨p, hp⟩ : ∃ x, nStrip s = x := ⟨_, rfl⟩
        obtain ⟨q, hq⟩ : ∃ x, nStrip t = x := ⟨_, rfl⟩
        obtain ⟨i, hi⟩ : ∃ x, nMarks s = x := ⟨_, rfl⟩
        obtain ⟨j, hj⟩ : ∃ x, nMarks t = x := ⟨_, rfl⟩
        have Hx := Lib.hid hx
        have Hy := Lib.hid hy'
        have Hp := Lib.hid hp
        have Hq := Lib.hid hq
        have Hi := Lib.hid hi
        have Hj := Lib.hid hj
        have HD : Hid (nD (s ++ t) = x ++ y') := Lib.hid (by rw [nD_join HB.out HB2.out hh, hx, hy'])
        have HP : Hid (nStrip (s ++ t) = p ++ q) := Lib.hid (by rw [nStrip_join HB.out HB2.out hh, hp, hq])
        have HMM : Hid (nMarks (s ++ t) = i + j) := Lib.hid (by rw [nMarks_join HB.out HB2.out hh, hi, hj])
        have lx : x.length ≤ 5000 := by rw [← hx]; have := nD_len s; omega
        have ly : y'.length ≤ 5000 := by rw [← hy']; have := nD_len t; omega
        have lp : p.length ≤ 5000 := by rw [← hp]; have := nStrip_len s; omega
        have lq : q.length ≤ 5000 := by rw [← hq]; have := nStrip_len t; omega
        have hil : i ≤ 100000 := by
          rw [← hi]
          have h1 := List.length_filter_le isM (dcF (nL s))
          have h2 := dcF_len (nL s)
          have h3 := nL_len s
          unfold nMarks
          omega
        have hjl : j ≤ 100000 := by
          rw [← hj]
          have h1 := List.length_filter_le isM (dcF (nL t))
          have h2 := dcF_len (nL t)
          have h3 := nL_len t
          unfold nMarks
          omega
        have hij : ((i + j : Nat) : Int) = (i : Int) + (j : Int) := by omega
        have q1 := same_str (x ++ y')
        have q2 := same_str (p ++ q)
        clear hx hy' hp hq hi hj hh
        go_enter Tryd.func7, Tryd.ntmps7
        go_wp2_with fail
        refine (awake_any _ hS).mono ?_
        rintro e w1 ⟨rfl, k1⟩
        go_wp2_with fail
        refine (dec_big_at w s l N _ _ k1 hlen HL.out HN.out HB.out).mono ?_
        rintro e w2 ⟨A1, c1, rfl, h1, k2, n2⟩
        go_wp2_with fail
        refine (dec_big_at w t m M _ _ k2 hlen2 HM.out HMN.out HB2.out).mono ?_
        rintro e w3 ⟨A2, c2, rfl, h2, k3, n3⟩
        have hadd : ∀ W : World, (Op.stringOp .add (str s) (str t)).run Tryd.prog W = _ := fun W => add_str s t (by omega)
        have haddD : ∀ W : World, (Op.stringOp .add (str x) (str y')).run Tryd.prog W = _ := fun W => add_str x y' (by omega)
        have haddP : ∀ W : World, (Op.stringOp .add (str p) (str q)).run Tryd.prog W = _ := fun W => add_str p q (by omega)
        have k9 := k3
        go_wp2_with fail
        refine (prDecompose_at w hS (s ++ t) (x ++ y') _ k9 hst HD.out).mono ?_
        rintro e w10 ⟨rfl, k10, n10⟩
        go_wp2_with fail
        refine (prDecompose_at w hS s x _ k10 hs Hx.out).mono ?_
        rintro e w11 ⟨rfl, k11, n11⟩
        go_wp2_with fail
        refine (prDecompose_at w hS t y' _ k11 ht Hy.out).mono ?_
        rintro e w12 ⟨rfl, k12, n12⟩
        go_wp2_with fail
        refine (prStrip_at w hS (s ++ t) (p ++ q) _ k12 hst HP.out).mono ?_
        rintro e w13 ⟨rfl, k13, n13⟩
        go_wp2_with fail
        refine (prStrip_at w hS s p _ k13 hs Hp.out).mono ?_
        rintro e w14 ⟨rfl, k14, n14⟩
        go_wp2_with fail
        refine (prStrip_at w hS t q _ k14 ht Hq.out).mono ?_
        rintro e w15 ⟨rfl, k15, n15⟩
        go_wp2_with fail
        refine (prMarks_at w hS (s ++ t) (i + j) _ k15 hst HMM.out).mono ?_
        rintro e w16 ⟨rfl, k16, n16⟩
        go_wp2_with fail
        refine (prMarks_at w hS s i _ k16 hs Hi.out).mono ?_
        rintro e w17 ⟨rfl, k17, n17⟩
        go_wp2_with fail
        refine (prMarks_at w hS t j _ k17 ht Hj.out).mono ?_
        rintro e w18 ⟨rfl, k18, n18⟩
        go_wp2
        go_ret
        exact ⟨rfl, k18⟩
      · obtain ⟨y, hy⟩ : ∃ a, m[0]? = some a := ⟨_, List.getElem?_eq_getElem (by omega)⟩
        have HY := Lib.hid hy
        have t3 : decide (0 < M) = true := by simp; omega
        have t3' : decide ((0 : Int) < (M : Int)) = true := by simp; omega
        have HK := Lib.hid (fun W => marks_any y W)
        obtain ⟨ky, hky⟩ : ∃ k, clM y = k := ⟨_, rfl⟩
        rw [hky] at HK
        by_cases hk0 : 0 < ky
        · have t4 : decide (0 < ky) = true := by simpa using hk0
          have t4' : decide ((0 : Int) < (ky : Int)) = true := by simp; omega
          clear hy hky
          go_enter Tryd.func7, Tryd.ntmps7
          go_wp2_with fail
          refine (awake_any _ hS).mono ?_
          rintro e w1 ⟨rfl, k1⟩
          go_wp2_with fail
          refine (dec_big_at w s l N _ _ k1 hlen HL.out HN.out HB.out).mono ?_
          rintro e w2 ⟨A1, c1, rfl, h1, k2, n2⟩
          go_wp2_with fail
          refine (dec_big_at w t m M _ _ k2 hlen2 HM.out HMN.out HB2.out).mono ?_
          rintro e w3 ⟨A2, c2, rfl, h2, k3, n3⟩
          obtain ⟨g2, o2, rfl, hg2, hc2⟩ := h2.some_ (by omega)
          have d0 := hc2 0 y HY.out
          rw [Nat.add_zero] at d0
          simp only [nv] at d0
          go_wp2_with fail
          refine (HK.out _).mono ?_
          rintro e wm ⟨rfl, qm, rfl⟩
          have km := below_drewN k3 qm
          go_wp2
          go_ret
          exact ⟨rfl, km⟩
        · have t4 : decide (0 < ky) = false := by simp; omega
          have t4' : decide ((0 : Int) < (ky : Int)) = false := by simp; omega
          have hh : ∀ c, (nL t).head? = some c → clM c = 0 := fun c hc => by
            have h1 := hhead y hy
            rw [h1] at hc
            injection hc with hc
            rw [← hc, hky]
            omega
          clear hy hky
          obtain ⟨x, hx⟩ : ∃ x, nD s = x := ⟨_, rfl⟩
          obtain ⟨y', hy'⟩ : ∃ x, nD t = x := ⟨_, rfl⟩
          obtain ⟨p, hp⟩ : ∃ x, nStrip s = x := ⟨_, rfl⟩
          obtain ⟨q, hq⟩ : ∃ x, nStrip t = x := ⟨_, rfl⟩
          obtain ⟨i, hi⟩ : ∃ x, nMarks s = x := ⟨_, rfl⟩
          obtain ⟨j, hj⟩ : ∃ x, nMarks t = x := ⟨_, rfl⟩
          have Hx := Lib.hid hx
          have Hy := Lib.hid hy'
          have Hp := Lib.hid hp
          have Hq := Lib.hid hq
          have Hi := Lib.hid hi
          have Hj := Lib.hid hj
          have HD : Hid (nD (s ++ t) = x ++ y') := Lib.hid (by rw [nD_join HB.out HB2.out hh, hx, hy'])
          have HP : Hid (nStrip (s ++ t) = p ++ q) := Lib.hid (by rw [nStrip_join HB.out HB2.out hh, hp, hq])
          have HMM : Hid (nMarks (s ++ t) = i + j) := Lib.hid (by rw [nMarks_join HB.out HB2.out hh, hi, hj])
          have lx : x.length ≤ 5000 := by rw [← hx]; have := nD_len s; omega
          have ly : y'.length ≤ 5000 := by rw [← hy']; have := nD_len t; omega
          have lp : p.length ≤ 5000 := by rw [← hp]; have := nStrip_len s; omega
          have lq : q.length ≤ 5000 := by rw [← hq]; have := nStrip_len t; omega
          have hil : i ≤ 100000 := by
            rw [← hi]
            have h1 := List.length_filter_le isM (dcF (nL s))
            have h2 := dcF_len (nL s)
            have h3 := nL_len s
            unfold nMarks
            omega
          have hjl : j ≤ 100000 := by
            rw [← hj]
            have h1 := List.length_filter_le isM (dcF (nL t))
            have h2 := dcF_len (nL t)
            have h3 := nL_len t
            unfold nMarks
            omega
          have hij : ((i + j : Nat) : Int) = (i : Int) + (j : Int) := by omega
          have q1 := same_str (x ++ y')
          have q2 := same_str (p ++ q)
          clear hx hy' hp hq hi hj hh
          go_enter Tryd.func7, Tryd.ntmps7
          go_wp2_with fail
          refine (awake_any _ hS).mono ?_
          rintro e w1 ⟨rfl, k1⟩
          go_wp2_with fail
          refine (dec_big_at w s l N _ _ k1 hlen HL.out HN.out HB.out).mono ?_
          rintro e w2 ⟨A1, c1, rfl, h1, k2, n2⟩
          go_wp2_with fail
          refine (dec_big_at w t m M _ _ k2 hlen2 HM.out HMN.out HB2.out).mono ?_
          rintro e w3 ⟨A2, c2, rfl, h2, k3, n3⟩
          obtain ⟨g2, o2, rfl, hg2, hc2⟩ := h2.some_ (by omega)
          have d0 := hc2 0 y HY.out
          rw [Nat.add_zero] at d0
          simp only [nv] at d0
          go_wp2_with fail
          refine (HK.out _).mono ?_
          rintro e wm ⟨rfl, qm, rfl⟩
          have km := below_drewN k3 qm
          have hadd : ∀ W : World, (Op.stringOp .add (str s) (str t)).run Tryd.prog W = _ := fun W => add_str s t (by omega)
          have haddD : ∀ W : World, (Op.stringOp .add (str x) (str y')).run Tryd.prog W = _ := fun W => add_str x y' (by omega)
          have haddP : ∀ W : World, (Op.stringOp .add (str p) (str q)).run Tryd.prog W = _ := fun W => add_str p q (by omega)
          have k9 := km
          go_wp2_with fail
          refine (prDecompose_at w hS (s ++ t) (x ++ y') _ k9 hst HD.out).mono ?_
          rintro e w10 ⟨rfl, k10, n10⟩
          go_wp2_with fail
          refine (prDecompose_at w hS s x _ k10 hs Hx.out).mono ?_
          rintro e w11 ⟨rfl, k11, n11⟩
          go_wp2_with fail
          refine (prDecompose_at w hS t y' _ k11 ht Hy.out).mono ?_
          rintro e w12 ⟨rfl, k12, n12⟩
          go_wp2_with fail
          refine (prStrip_at w hS (s ++ t) (p ++ q) _ k12 hst HP.out).mono ?_
          rintro e w13 ⟨rfl, k13, n13⟩
          go_wp2_with fail
          refine (prStrip_at w hS s p _ k13 hs Hp.out).mono ?_
          rintro e w14 ⟨rfl, k14, n14⟩
          go_wp2_with fail
          refine (prStrip_at w hS t q _ k14 ht Hq.out).mono ?_
          rintro e w15 ⟨rfl, k15, n15⟩
          go_wp2_with fail
          refine (prMarks_at w hS (s ++ t) (i + j) _ k15 hst HMM.out).mono ?_
          rintro e w16 ⟨rfl, k16, n16⟩
          go_wp2_with fail
          refine (prMarks_at w hS s i _ k16 hs Hi.out).mono ?_
          rintro e w17 ⟨rfl, k17, n17⟩
          go_wp2_with fail
          refine (prMarks_at w hS t j _ k17 ht Hj.out).mono ?_
          rintro e w18 ⟨rfl, k18, n18⟩
          go_wp2
          go_ret
          exact ⟨rfl, k18⟩

end Go.Proofs.YtpgaebdaakllaaaDoor

namespace Go.Proofs.YtpgaebdaakllaaaDoor
open Go.RowKit

theorem arr_one (w : World) (x : Int) : Arr iv (w.alloc (.cells #[.int .i64 x] 3)) (w.alloc (.cells #[.int .i64 x] 3)).heap.size (.slice (some ⟨w.heap.size, 0, none⟩) 1 1) [x] := by
  have h := Arr.of_box (val := iv) (xs := [x]) (n := 1) (c := 1) (Box.made w 3 #[.int .i64 x]) rfl (by omega) (by
    intro i u hu
    cases i with
    | zero => simp at hu; subst hu; rfl
    | succ i => simp at hu)
  exact h.more (by simp)
theorem encode_one (W : World) (x : Int) (S : List UInt8) (b : Bool) (w : World) (hk : Below W.heap.size W w) (h1 : hasR x = b) (h2 : S = if b = true then encL [x.toNat] else []) :
    Calls Tryd.prog 24 #[.slice (some ⟨w.heap.size, 0, none⟩) 1 1] (w.alloc (.cells #[.int .i64 x] 3)) fun e w' => e = .returned (.tuple #[.string (str S), .bool b]) ∧ Below W.heap.size W w' := by
  refine (refEncode_any _ 1 1 [x] _ (arr_one w x) (by omega)).mono ?_
  rintro e w' ⟨h3, h4⟩
  have hb : Below W.heap.size W w' := below_next (below_new hk _) h4
  subst h2
  cases b with
  | true =>
    rw [encR_good (by simp [h1])] at h3
    exact ⟨h3, hb⟩
  | false =>
    rw [encR_bad (k := 0) rfl h1] at h3
    exact ⟨h3, hb⟩

set_option maxRecDepth 20000 in
set_option maxHeartbeats 3200000 in
theorem normalLetters_v (c : Int) (w : World) (hS : Ready w) :
    Calls Tryd.prog 9 #[.int .i64 c] w fun e w' => e = .returned (.bool true) ∧ Below w.heap.size w w' := by
  cases hc : hasR c with
  | false =>
    have HC := Lib.hid hc
    have HD : Hid (nD [] = []) := Lib.hid (by kernel_rfl)
    have q0 : (str []).toList.isEmpty = true := by rw [str_toList]; rfl
    clear hc
    go_enter Tryd.func9, Tryd.ntmps9
    go_wp2_with fail
    refine (awake_any _ hS).mono ?_
    rintro e w1 ⟨rfl, k1⟩
    go_wp2_with fail
    refine (encode_one w c [] false w1 k1 HC.out rfl).mono ?_
    rintro e w2 ⟨rfl, k2⟩
    go_wp2_with fail
    refine (prDecompose_at w hS [] [] _ k2 (by decide) HD.out).mono ?_
    rintro e w3 ⟨rfl, k3, n3⟩
    go_wp2
    go_ret
    exact ⟨rfl, k3⟩
  | true =>
    have hr := has_range hc
    obtain ⟨k, rfl⟩ : ∃ k : Nat, c = (k : Int) := ⟨c.toNat, by omega⟩
    have hk : hasN k = true := by rw [← hasN_eq]; exact hc
    have hok : ∀ x ∈ [k], okC x := fun x hx => by rw [List.mem_singleton] at hx; rw [hx]; exact ok_of_has hk
    obtain ⟨S, hSS⟩ : ∃ S, encL [k] = S := ⟨_, rfl⟩
    obtain ⟨d, hd⟩ : ∃ d, nD S = d := ⟨_, rfl⟩
    obtain ⟨L, hL⟩ : ∃ L, nL d = L := ⟨_, rfl⟩
    have hLw : L = wholeR k := by rw [← hL, ← hd, nL_nD, ← hSS, nL_enc hok, dcF_one]
    obtain ⟨N, hN⟩ : ∃ N, L.length = N := ⟨_, rfl⟩
    have hN1 : 1 ≤ N := by
      rw [← hN, hLw]
      have := whole_ne k
      cases h : wholeR k with
      | nil => exact absurd h this
      | cons a l => simp
    have hN2 : N ≤ 2 := by rw [← hN, hLw]; exact whole_len k
    have hSl : S.length ≤ 5000 := by rw [← hSS]; have := encL_len [k]; simp at this; omega
    have hSl3 : S.length ≤ 3 := by rw [← hSS]; have := encL_len [k]; simpa using this
    have hdl : d.length ≤ 5000 := by rw [← hd]; have := nD_len S; omega
    obtain ⟨sc, hsc⟩ : ∃ x, scriptR S = x := ⟨_, rfl⟩
    have hscd : scriptR d = sc := by rw [← hsc, ← hd, ← hSS]; exact letter_script hk
    have hsome : (decR d).isSome = true := by rw [← hd, ← hSS]; unfold nD; rw [enc_some (dcF_ok _)]; rfl
    obtain ⟨mm, hmm⟩ : ∃ x, nMarks d = x := ⟨_, rfl⟩
    have hcases : N = 1 ∨ mm = 0 ∨ (N = 2 ∧ nC d = S) := by
      rw [← hN, hLw, ← hmm, ← hd, ← hSS]
      exact letter_cases hk
    have HC := Lib.hid hc
    have HE : Hid (S = if (true : Bool) = true then encL [((k : Int)).toNat] else []) := Lib.hid (by rw [if_pos rfl, ← hSS]; rfl)
    have Hd := Lib.hid hd
    have HL := Lib.hid hL
    have HN := Lib.hid hN
    have Hsc := Lib.hid hsc
    have Hscd := Lib.hid hscd
    have Hso := Lib.hid hsome
    have Hmm := Lib.hid hmm
    have q0 : ((N : Int) == 0) = false := eqb_false (by omega)
    have q1 : ((sc : Int) != (sc : Int)) = false := by simp
    have q2 := same_str S
    clear hc hok hSS hd hL hLw hN hsc hscd hsome hmm
    by_cases hN1' : N = 1
    · have q3 : ((N : Int) == 1) = true := eqb_true (by omega)
      clear hcases
      go_enter Tryd.func9, Tryd.ntmps9
      go_wp2_with fail
      refine (awake_any _ hS).mono ?_
      rintro e w1 ⟨rfl, k1⟩
      go_wp2_with fail
      refine (encode_one w (k : Int) S true w1 k1 HC.out HE.out).mono ?_
      rintro e w2 ⟨rfl, k2⟩
      go_wp2_with fail
      refine (prDecompose_at w hS S d _ k2 hSl Hd.out).mono ?_
      rintro e w3 ⟨rfl, k3, n3⟩
      go_wp2_with fail
      refine (dec_big_at w d L N true _ k3 (by omega) HL.out HN.out Hso.out).mono ?_
      rintro e w4 ⟨A1, c1, rfl, h1, k4, n4⟩
      go_wp2_with fail
      refine (script_at w d sc _ k4 hdl Hscd.out).mono ?_
      rintro e w5 ⟨rfl, k5, n5⟩
      go_wp2_with fail
      refine (script_at w S sc _ k5 hSl Hsc.out).mono ?_
      rintro e w6 ⟨rfl, k6, n6⟩
      go_wp2
      go_ret
      exact ⟨rfl, k6⟩
    have q3 : ((N : Int) == 1) = false := eqb_false (by omega)
    by_cases hm0 : mm = 0
    · have q4 : ((mm : Int) == 0) = true := eqb_true (by omega)
      clear hcases
      go_enter Tryd.func9, Tryd.ntmps9
      go_wp2_with fail
      refine (awake_any _ hS).mono ?_
      rintro e w1 ⟨rfl, k1⟩
      go_wp2_with fail
      refine (encode_one w (k : Int) S true w1 k1 HC.out HE.out).mono ?_
      rintro e w2 ⟨rfl, k2⟩
      go_wp2_with fail
      refine (prDecompose_at w hS S d _ k2 hSl Hd.out).mono ?_
      rintro e w3 ⟨rfl, k3, n3⟩
      go_wp2_with fail
      refine (dec_big_at w d L N true _ k3 (by omega) HL.out HN.out Hso.out).mono ?_
      rintro e w4 ⟨A1, c1, rfl, h1, k4, n4⟩
      go_wp2_with fail
      refine (script_at w d sc _ k4 hdl Hscd.out).mono ?_
      rintro e w5 ⟨rfl, k5, n5⟩
      go_wp2_with fail
      refine (script_at w S sc _ k5 hSl Hsc.out).mono ?_
      rintro e w6 ⟨rfl, k6, n6⟩
      go_wp2_with fail
      refine (prMarks_at w hS d mm _ k6 hdl Hmm.out).mono ?_
      rintro e w7 ⟨rfl, k7, n7⟩
      go_wp2
      go_ret
      exact ⟨rfl, k7⟩
    · have q4 : ((mm : Int) == 0) = false := eqb_false (by omega)
      have hNc : N = 2 ∧ nC d = S := by
        rcases hcases with h | h | h
        · exact absurd h hN1'
        · exact absurd h hm0
        · exact h
      have q5 : ((N : Int) == 2) = true := eqb_true (by omega)
      have Hcc := Lib.hid hNc.2
      clear hcases hNc
      go_enter Tryd.func9, Tryd.ntmps9
      go_wp2_with fail
      refine (awake_any _ hS).mono ?_
      rintro e w1 ⟨rfl, k1⟩
      go_wp2_with fail
      refine (encode_one w (k : Int) S true w1 k1 HC.out HE.out).mono ?_
      rintro e w2 ⟨rfl, k2⟩
      go_wp2_with fail
      refine (prDecompose_at w hS S d _ k2 hSl Hd.out).mono ?_
      rintro e w3 ⟨rfl, k3, n3⟩
      go_wp2_with fail
      refine (dec_big_at w d L N true _ k3 (by omega) HL.out HN.out Hso.out).mono ?_
      rintro e w4 ⟨A1, c1, rfl, h1, k4, n4⟩
      go_wp2_with fail
      refine (script_at w d sc _ k4 hdl Hscd.out).mono ?_
      rintro e w5 ⟨rfl, k5, n5⟩
      go_wp2_with fail
      refine (script_at w S sc _ k5 hSl Hsc.out).mono ?_
      rintro e w6 ⟨rfl, k6, n6⟩
      go_wp2_with fail
      refine (prMarks_at w hS d mm _ k6 hdl Hmm.out).mono ?_
      rintro e w7 ⟨rfl, k7, n7⟩
      go_wp2_with fail
      refine (prCompose_at w hS d S _ k7 hdl Hcc.out).mono ?_
      rintro e w8 ⟨rfl, k8, n8⟩
      go_wp2
      go_ret
      exact ⟨rfl, k8⟩

end Go.Proofs.YtpgaebdaakllaaaDoor

namespace Go.Proofs.YtpgaebdaakllaaaDoor
open Go.RowKit

theorem append_all_open {ops : Array Oper} {rest : List Oper} {o : Oper} {a : Act} {Q : Exit → Act → World → Prop} (w : World) (hgd : o.guard = none) (s x : Operand)
    (ho : o.op = .call { callee := .builtin .append, args := #[s, x], argTypes := #[27, 27] })
    (base B : Nat) (v : Value) (hs : a.eval s = v) (hown : w.ownsRow base 3 1 v 0 []) (news : List Nat) (N : Nat) (hN : news.length = N) (h0 : 0 < N) (src : Value) (hx : a.eval x = src) (hsl : Arr nv w B src news)
    (hlen : N ≤ 1000000000000) (hbase : base ≤ w.heap.size)
    (h : ∀ (g cap : Nat) (cur : Array Value) (w' : World), base ≤ g → Box w' g 3 cur → N ≤ cap → cap ≤ maxLen → cur.size = cap → cur.toList.take N = news.map nv → Below base w w' →
      wpList Tryd.prog ops Q rest (a.put o.dst (.slice (some ⟨g, 0, none⟩) N cap)) w') : wpList Tryd.prog ops Q (o :: rest) a w := by
  refine append_ints w hgd s x ho base B v [] hs hown news src hx hsl (by simp; omega) hbase ?_
  intro v' w' h1 h2
  rw [List.nil_append, hN] at h1
  obtain ⟨g, cap, cur, rfl, k1, k2, k3, k4, k5, k6⟩ := own_open h1 h0
  exact h g cap cur w' k1 k2 k3 k4 k5 k6 h2

/-- Integers that are all in the repertoire are characters. -/
theorem all_nats : ∀ xs : List Int, xs.all hasR = true → ∃ l : List Nat, xs = l.map (fun d : Nat => (d : Int)) ∧ ∀ c ∈ l, hasN c = true
  | [], _ => ⟨[], rfl, by simp⟩
  | x :: xs, h => by
    rw [List.all_cons, Bool.and_eq_true] at h
    obtain ⟨l, h1, h2⟩ := all_nats xs h.2
    have hr := has_range h.1
    refine ⟨x.toNat :: l, by rw [List.map_cons, ← h1]; congr 1; omega, fun c hc => ?_⟩
    rcases List.mem_cons.1 hc with rfl | hc
    · rw [← hasN_eq, show ((x.toNat : Nat) : Int) = x by omega]
      exact h.1
    · exact h2 c hc

theorem encode_at (W : World) (A : Option Addr) (n c : Nat) (xs : List Int) (w : World) (hk : Below W.heap.size W w) (h : Arr iv w w.heap.size (.slice A n c) xs) (hn : n ≤ 1000000000000000000) :
    Calls Tryd.prog 24 #[.slice A n c] w fun e w' => EncEnd (encR xs) e ∧ Below W.heap.size W w' ∧ Below w.heap.size w w' :=
  (refEncode_any A n c xs w h hn).mono fun _ _ ⟨h1, h2⟩ => ⟨h1, below_next hk h2, h2⟩

set_option maxRecDepth 100000 in
set_option maxHeartbeats 6400000 in
theorem normalOrder_v (A : Option Addr) (n c : Nat) (xs : List Int) (a : Nat) (w : World) (hS : Ready w) (h : Arr iv w w.heap.size (.slice A n c) xs) (hn : n ≤ 1000000000000000000) (ha : a < 256) :
    Calls Tryd.prog 6 #[.slice A n c, .int .u8 (a : Int)] w fun e w' => e = .returned (.bool true) ∧ Below w.heap.size w w' := by
  have hxl := h.len
  cases hr : xs.all hasR with
  | false =>
    have HE : Hid (encR xs = none) := Lib.hid (by unfold encR; rw [if_neg]; rw [hr]; decide)
    clear hr hxl
    go_enter Tryd.func6, Tryd.ntmps6
    go_wp2_with fail
    refine (awake_any _ hS).mono ?_
    rintro e w1 ⟨rfl, k1⟩
    have h1 := h.up k1
    go_wp2_with fail
    refine (encode_at w A n c xs w1 k1 h1 hn).mono ?_
    rintro e w2 ⟨he, k2, n2⟩
    rw [HE.out] at he
    obtain rfl := show e = _ from he
    go_wp2
    go_ret
    exact ⟨rfl, k2⟩
  | true =>
    obtain ⟨l, rfl, hl⟩ := all_nats xs hr
    rw [List.length_map] at hxl
    have hok : ∀ x ∈ l, okC x := fun x hx => ok_of_has (hl x hx)
    have HE : Hid (encR (l.map fun d : Nat => (d : Int)) = some (encL l)) := Lib.hid (encR_nats hok)
    obtain ⟨S, hSS⟩ : ∃ S, encL l = S := ⟨_, rfl⟩
    rw [hSS] at HE
    by_cases h30 : 30 < n
    · have t1 : decide (30 < (n : Int)) = true := by simp; omega
      clear hr hxl hok hl hSS
      go_enter Tryd.func6, Tryd.ntmps6
      go_wp2_with fail
      refine (awake_any _ hS).mono ?_
      rintro e w1 ⟨rfl, k1⟩
      have h1 := h.up k1
      go_wp2_with fail
      refine (encode_at w A n c _ w1 k1 h1 hn).mono ?_
      rintro e w2 ⟨he, k2, n2⟩
      rw [HE.out] at he
      obtain rfl := show e = _ from he
      go_wp2
      go_ret
      exact ⟨rfl, k2⟩
    · have t1 : decide (30 < (n : Int)) = false := by simp; omega
      have hSl : S.length ≤ 90 := by rw [← hSS]; have := encL_len l; omega
      have hSl2 : S.length ≤ 5000 := by omega
      have hnLS : nL S = l := by rw [← hSS]; exact nL_enc hok
      obtain ⟨D, hD⟩ : ∃ D, nD S = D := ⟨_, rfl⟩
      obtain ⟨L, hL⟩ : ∃ L, nL D = L := ⟨_, rfl⟩
      have hLd : L = dcF l := by rw [← hL, ← hD, nL_nD, hnLS]
      obtain ⟨N, hN⟩ : ∃ N, L.length = N := ⟨_, rfl⟩
      have hN60 : N ≤ 60 := by rw [← hN, hLd]; have := dcF_len l; omega
      have hDl : D.length ≤ 5000 := by rw [← hD]; have := nD_len S; omega
      have hsome : (decR D).isSome = true := by rw [← hD]; unfold nD; rw [enc_some (dcF_ok _)]; rfl
      have HO : Hid (∀ (i x y : Nat), L[i]? = some x → L[i + 1]? = some y → 0 < clM y → clM x ≤ clM y) := Lib.hid (by rw [hLd]; exact fun i x y h1 h2 h3 => dc_order h1 h2 h3)
      have HD := Lib.hid hD
      have HL := Lib.hid hL
      have HN := Lib.hid hN
      have Hso := Lib.hid hsome
      have HSS := Lib.hid hSS
      have HOK := Lib.hid hok
      have HnLS := Lib.hid hnLS
      have Hxl := Lib.hid hxl
      have HLH := Lib.hid hl
      clear hr hxl hok hl hSS hnLS hD hL hLd hN hsome
      go_enter Tryd.func6, Tryd.ntmps6
      go_wp2_with fail
      refine (awake_any _ hS).mono ?_
      rintro e w1 ⟨rfl, k1⟩
      have h1 := h.up k1
      go_wp2_with fail
      refine (encode_at w A n c _ w1 k1 h1 hn).mono ?_
      rintro e w2 ⟨he, k2, n2⟩
      rw [HE.out] at he
      obtain rfl := show e = _ from he
      go_wp2_with fail
      refine (prDecompose_at w hS S D _ k2 hSl2 HD.out).mono ?_
      rintro e w3 ⟨rfl, k3, n3⟩
      go_wp2_with fail
      refine (dec_big_at w D L N true _ k3 (by omega) HL.out HN.out Hso.out).mono ?_
      rintro e w4 ⟨AD, cD, rfl, hAD, k4, n4⟩
      have h4 : Arr nv w4 w.heap.size (.slice A n c) l := (h.nat).at_ k4
      clear h1 h
      go_wp2
      go_loopw [9] (fun i wr => ∃ k q : Nat, 1 ≤ k ∧ (k ≤ N ∨ k = 1) ∧ i = .int .i64 (k : Int) ∧ wr = w4.drewN q) (fun i _ => N - (intOf i).toNat)
      case atStart => exact ⟨1, 0, by omega, by omega, rfl, rfl⟩
      case round =>
        obtain ⟨k, q, hk1, hk2, rfl, rfl⟩ := hrel
        by_cases hlt : k < N
        · have i1 : decide ((k : Int) < (N : Int)) = true := by simp; omega
          obtain ⟨j, rfl⟩ : ∃ j, k = j + 1 := ⟨k - 1, by omega⟩
          obtain ⟨b0, o0, rfl, hB0, hc0⟩ := hAD.some_ (by omega)
          obtain ⟨x, hx⟩ : ∃ a, L[j]? = some a := ⟨_, List.getElem?_eq_getElem (by have := HN.out; omega)⟩
          obtain ⟨y, hy⟩ : ∃ a, L[j + 1]? = some a := ⟨_, List.getElem?_eq_getElem (by have := HN.out; omega)⟩
          have dx := hc0 j x hx
          have dy := hc0 (j + 1) y hy
          simp only [nv] at dx dy
          have z1 : ((j + 1 : Nat) : Int) < (N : Int) := by omega
          have z0 : (j : Int) < (N : Int) := by omega
          have e0 : ((j + 1 : Nat) : Int) - 1 = (j : Int) := by omega
          have hord := HO.out j x y hx hy
          have HX := Lib.hid (fun W => marks_any x W)
          have HY := Lib.hid (fun W => marks_any y W)
          obtain ⟨kx, hkx⟩ : ∃ k, clM x = k := ⟨_, rfl⟩
          obtain ⟨ky, hky⟩ : ∃ k, clM y = k := ⟨_, rfl⟩
          rw [hkx] at HX
          rw [hky] at HY
          rw [hkx, hky] at hord
          clear hc0 hx hy hkx hky
          by_cases hy0 : 0 < ky
          · have t2 : decide (0 < ky) = true := by simpa using hy0
            have t2' : decide ((0 : Int) < (ky : Int)) = true := by simp; omega
            have hle := hord hy0
            have t3 : decide (ky < kx) = false := by simp; omega
            have t3' : decide ((ky : Int) < (kx : Int)) = false := by simp; omega
            go_wp2
            go_big_quiet (first | (go_at_call_of 25 y; exact quiet_add (HY.out _)) | (go_at_call_of 25 x; exact quiet_add (HX.out _)))
            go_wp2
            go_roundw
            case rel => exact ⟨j + 1 + 1, _, by omega, by omega, by go_num, rfl⟩
            case measure => simp [intOf]; omega
          · have t2 : decide (0 < ky) = false := by simp; omega
            have t2' : decide ((0 : Int) < (ky : Int)) = false := by simp; omega
            go_wp2
            go_big_quiet (first | (go_at_call_of 25 y; exact quiet_add (HY.out _)) | (go_at_call_of 25 x; exact quiet_add (HX.out _)))
            go_wp2
            go_roundw
            case rel => exact ⟨j + 1 + 1, _, by omega, by omega, by go_num, rfl⟩
            case measure => simp [intOf]; omega
        · have i1 : decide ((k : Int) < (N : Int)) = false := by simp; omega
          by_cases h2 : n < 2
          · have t2 : decide ((n : Int) < 2) = true := by simp; omega
            go_wp2
            go_ret
            exact ⟨rfl, below_drewN k4 q⟩
          · have t2 : decide ((n : Int) < 2) = false := by simp; omega
            obtain ⟨m, rfl⟩ : ∃ m, n = m + 1 := ⟨n - 1, by omega⟩
            obtain ⟨K, hK⟩ : ∃ K, a % m = K := ⟨_, rfl⟩
            have hKm : K < m := by rw [← hK]; exact Nat.mod_lt _ (by omega)
            have hm1 : ((m + 1 : Nat) : Int) - 1 = (m : Int) := by omega
            have hm0 : (m : Int) ≠ 0 := by omega
            have hm0' : ((m : Int) == 0) = false := eqb_false hm0
            have hmod : (a : Int).tmod (m : Int) = (K : Int) := by rw [Int.tmod_eq_emod_of_nonneg (by omega), ← hK]; exact (Int.natCast_emod a m).symm
            have hmod2 : (a : Int) % (m : Int) = (K : Int) := by rw [← hK]; exact (Int.natCast_emod a m).symm
            obtain ⟨b1, o1, rfl, hB1, hc1⟩ := h4.some_ (by omega)
            obtain ⟨x, hx⟩ : ∃ a, l[K]? = some a := ⟨_, List.getElem?_eq_getElem (by have := Hxl.out; omega)⟩
            obtain ⟨y, hy⟩ : ∃ a, l[K + 1]? = some a := ⟨_, List.getElem?_eq_getElem (by have := Hxl.out; omega)⟩
            have dx := hc1 K x hx
            have dy := hc1 (K + 1) y hy
            simp only [nv] at dx dy
            have z0 : (K : Int) < ((m + 1 : Nat) : Int) := by omega
            have z1 : (K : Int) + 1 < ((m + 1 : Nat) : Int) := by omega
            have z2 : ((K + 1 : Nat) : Int) < ((m + 1 : Nat) : Int) := by omega
            have HX := Lib.hid (fun W => marks_any x W)
            have HY := Lib.hid (fun W => marks_any y W)
            obtain ⟨P, Q, hPQ, hPl⟩ : ∃ P Q, l = P ++ x :: y :: Q ∧ P.length = K := by
              obtain ⟨g1, g2⟩ := List.getElem?_eq_some_iff.1 hx
              obtain ⟨g3, g4⟩ := List.getElem?_eq_some_iff.1 hy
              refine ⟨l.take K, l.drop (K + 2), ?_, by rw [List.length_take]; omega⟩
              conv => lhs; rw [← List.take_append_drop K l, List.drop_eq_getElem_cons g1, g2, List.drop_eq_getElem_cons g3, g4]
            obtain ⟨kx, hkx⟩ : ∃ k, clM x = k := ⟨_, rfl⟩
            obtain ⟨ky, hky⟩ : ∃ k, clM y = k := ⟨_, rfl⟩
            rw [hkx] at HX
            rw [hky] at HY
            have HKX := Lib.hid hkx
            have HKY := Lib.hid hky
            have HPQ := Lib.hid hPQ
            have HPl := Lib.hid hPl
            clear hc1 hx hy hkx hky hPQ hPl hK
            by_cases hx0 : kx = 0
            · have t4 : ((kx : Int) == 0) = true := eqb_true (by omega)
              go_wp2
              go_big_quiet (first | (go_at_call_of 25 x; exact quiet_add (HX.out _)) | (go_at_call_of 25 y; exact quiet_add (HY.out _)))
              go_wp2
              go_ret
              exact ⟨rfl, by repeat first | exact k4 | refine below_drewN ?_ _⟩
            have t4 : ((kx : Int) == 0) = false := eqb_false (by omega)
            by_cases hy0 : ky = 0
            · have t5 : ((ky : Int) == 0) = true := eqb_true (by omega)
              go_wp2
              go_big_quiet (first | (go_at_call_of 25 x; exact quiet_add (HX.out _)) | (go_at_call_of 25 y; exact quiet_add (HY.out _)))
              go_wp2
              go_ret
              exact ⟨rfl, by repeat first | exact k4 | refine below_drewN ?_ _⟩
            have t5 : ((ky : Int) == 0) = false := eqb_false (by omega)
            by_cases hxy : kx = ky
            · have t6 : ((kx : Int) == (ky : Int)) = true := eqb_true (by omega)
              go_wp2
              go_big_quiet (first | (go_at_call_of 25 x; exact quiet_add (HX.out _)) | (go_at_call_of 25 y; exact quiet_add (HY.out _)))
              go_wp2
              go_ret
              exact ⟨rfl, by repeat first | exact k4 | refine below_drewN ?_ _⟩
            have t6 : ((kx : Int) == (ky : Int)) = false := eqb_false (by omega)
            have HEq : Hid (encR ((P ++ y :: x :: Q).map fun d : Nat => (d : Int)) = some (encL (P ++ y :: x :: Q)) ∧ nEq S (encL (P ++ y :: x :: Q)) = true ∧ (P ++ y :: x :: Q).length = m + 1) := Lib.hid (by
              have hok2 : ∀ z ∈ P ++ y :: x :: Q, okC z := fun z hz => HOK.out z (by rw [HPQ.out]; simp at hz ⊢; rcases hz with h | h | h | h <;> simp [h])
              refine ⟨encR_nats hok2, ?_, by have h := Hxl.out; rw [HPQ.out] at h; simp at h ⊢; omega⟩
              unfold nEq nD
              rw [HnLS.out, ← HSS.out, enc_some HOK.out, enc_some hok2, nL_enc hok2, HPQ.out, dc_swap (P := P) (Q := Q) (x := x) (y := y) (by rw [HKX.out]; omega) (by rw [HKY.out]; omega) (by rw [HKX.out, HKY.out]; exact hxy), decide_eq_true rfl]
              rfl)
            obtain ⟨T, hT⟩ : ∃ T, encL (P ++ y :: x :: Q) = T := ⟨_, rfl⟩
            have hTl : T.length ≤ 5000 := by rw [← hT]; have := encL_len (P ++ y :: x :: Q); have h := HEq.out.2.2; omega
            rw [hT] at HEq
            clear hT
            go_wp2
            go_big_quiet (first | (go_at_call_of 25 x; exact quiet_add (HX.out _)) | (go_at_call_of 25 y; exact quiet_add (HY.out _)))
            have h5 : Arr nv ((w4.drewN q).drewN nq) w.heap.size (.slice (some ⟨b1, o1, none⟩) (m + 1) c) l := h4
            have k5 : Below w.heap.size w ((w4.drewN q).drewN nq) := below_drewN (below_drewN k4 q) nq
            generalize (w4.drewN q).drewN nq = W5 at h5 k5 ⊢
            have k5s := k5.size
            have h6 : Arr nv (W5.alloc (.cells #[] 3)) w.heap.size (.slice (some ⟨b1, o1, none⟩) (m + 1) c) l := h5.below ((Below.refl _ _).alloc k5s _)
            clear dx dy h4
            go_wp2_with (at_builtin; refine append_all_open (W5.alloc (.cells #[] 3)) rfl (.tmp 95) (.tmp 96) rfl W5.heap.size w.heap.size (.slice (some ⟨W5.heap.size, 0, none⟩) 0 0) rfl (own_empty W5 3) l (m + 1) Hxl.out (by omega) _ rfl h6 (by omega) (by simp) ?_; intro g cap cur w6 hBg hcur hcc hcm hcsz htake hb6; have HT0 := Lib.hid htake; have HCM := Lib.hid hcm; clear htake hcm)
            have k6 : Below w.heap.size w w6 := (below_new k5 _).trans (hb6.mono k5s)
            have dx : w6.cell? ⟨g, K, none⟩ = some (.int .i64 (x : Int)) := (hcur.cell K).trans (take_cell HT0.out (by rw [HPQ.out, List.getElem?_append_right (by rw [HPl.out]; omega), HPl.out]; simp))
            have dy : w6.cell? ⟨g, K + 1, none⟩ = some (.int .i64 (y : Int)) := (hcur.cell (K + 1)).trans (take_cell HT0.out (by rw [HPQ.out, List.getElem?_append_right (by rw [HPl.out]; omega), HPl.out]; simp))
            have f0 : w6.frozen? ⟨g, K, none⟩ = false := hcur.free K
            have f1 : w6.frozen? ⟨g, K + 1, none⟩ = false := hcur.free (K + 1)
            have HT2 : Hid (((cur.setIfInBounds K (nv y)).setIfInBounds (K + 1) (nv x)).toList.take (m + 1) = (P ++ y :: x :: Q).map nv) := Lib.hid (by
              have h := swap_take (n := m + 1) (P := P) (Q := Q) (p := x) (c := y) (cur := cur) (by rw [HT0.out, HPQ.out])
              rw [HPl.out] at h
              exact h)
            go_wp2
            go_region
            all_goals
              have hBel : Below g w6 ((w6.setCell ⟨g, K, none⟩ (.int .i64 (y : Int))).setCell ⟨g, K + 1, none⟩ (.int .i64 (x : Int))).drew := (((Below.refl g w6).setCell (p := ⟨g, K, none⟩) (Nat.le_refl g) (.int .i64 (y : Int))).setCell (p := ⟨g, K + 1, none⟩) (Nat.le_refl g) (.int .i64 (x : Int))).drew
              have hbox : Box ((w6.setCell ⟨g, K, none⟩ (.int .i64 (y : Int))).setCell ⟨g, K + 1, none⟩ (.int .i64 (x : Int))).drew g 3 ((cur.setIfInBounds K (nv y)).setIfInBounds (K + 1) (nv x)) := ((hcur.put K (nv y)).put (K + 1) (nv x)).drew
              have hown7 := own_M HEq.out.2.2 hBg hbox hcc HCM.out (by simp [hcsz]) HT2.out
              rw [HEq.out.2.2] at hown7
              generalize ((w6.setCell ⟨g, K, none⟩ (.int .i64 (y : Int))).setCell ⟨g, K + 1, none⟩ (.int .i64 (x : Int))).drew = w7 at hBel hbox hown7 ⊢
              have k7 : Below w.heap.size w w7 := k6.trans (hBel.mono (by omega))
              have hA7 : Arr nv w7 w7.heap.size (.slice (some ⟨g, 0, none⟩) (m + 1) cap) (P ++ y :: x :: Q) := Arr.of_own (by rw [HEq.out.2.2]; exact hown7)
              go_wp2_with fail
              refine (encode_at w _ (m + 1) cap _ w7 k7 hA7.int (by omega)).mono ?_
              rintro e w8 ⟨he, k8, n8⟩
              rw [HEq.out.1] at he
              obtain rfl := show e = _ from he
              go_wp2_with fail
              refine (prEqual_at w hS S T true _ k8 hSl2 hTl HEq.out.2.1).mono ?_
              rintro e w9 ⟨rfl, k9, n9⟩
              go_wp2
              go_ret
              exact ⟨rfl, k9⟩

end Go.Proofs.YtpgaebdaakllaaaDoor

namespace Go.Proofs.YtpgaebdaakllaaaDoor
open Go.RowKit

theorem len_of {b : ByteArray} (h : b.size ≤ maxLen) : b.data.toList.length ≤ 9223372036854775807 := by
  unfold maxLen at h
  have : b.data.toList.length = b.size := rfl
  omega
theorem normalForms_u (b : ByteArray) (w : World) (hS : Spans w) (h : b.size ≤ maxLen) :
    Calls Tryd.prog 3 #[.string b] w fun e w' => e = .returned (.bool true) ∧ Below w.heap.size w w' := by
  rw [← str_data b]
  exact normalForms_v b.data.toList w hS (len_of h)
theorem normalTwice_u (b : ByteArray) (w : World) (hS : Spans w) (h : b.size ≤ maxLen) :
    Calls Tryd.prog 4 #[.string b] w fun e w' => e = .returned (.bool true) ∧ Below w.heap.size w w' := by
  rw [← str_data b]
  exact normalTwice_v b.data.toList w hS (len_of h)
theorem normalStrips_u (b d : ByteArray) (w : World) (hS : Spans w) (h : b.size ≤ maxLen) (h2 : d.size ≤ maxLen) :
    Calls Tryd.prog 8 #[.string b, .string d] w fun e w' => e = .returned (.bool true) ∧ Below w.heap.size w w' := by
  rw [← str_data b, ← str_data d]
  exact normalStrips_v b.data.toList d.data.toList w hS (len_of h) (len_of h2)
theorem normalEqual_u (b d : ByteArray) (w : World) (hS : Spans w) (h : b.size ≤ maxLen) (h2 : d.size ≤ maxLen) :
    Calls Tryd.prog 5 #[.string b, .string d] w fun e w' => e = .returned (.bool true) ∧ Below w.heap.size w w' := by
  rw [← str_data b, ← str_data d]
  exact normalEqual_v b.data.toList d.data.toList w hS (len_of h) (len_of h2)
theorem normalJoins_u (b d : ByteArray) (w : World) (hS : Spans w) (h : b.size ≤ 1048576) (h2 : d.size ≤ 1048576) :
    Calls Tryd.prog 7 #[.string b, .string d] w fun e w' => e = .returned (.bool true) ∧ Below w.heap.size w w' := by
  have e1 : b.data.toList.length = b.size := rfl
  have e2 : d.data.toList.length = d.size := rfl
  rw [← str_data b, ← str_data d]
  exact normalJoins_v b.data.toList d.data.toList w hS (by omega) (by omega)
theorem normalOrder_u (A : Option Addr) (n c a : Nat) (xs : List Int) (w : World) (hS : Spans w) (h : Arr iv w w.heap.size (.slice A n c) xs) (hn : n ≤ 1000000000000000000) (ha : a < 256) :
    Calls Tryd.prog 6 #[.slice A n c, .int .u8 (a : Int)] w fun e w' => e = .returned (.bool true) ∧ Below w.heap.size w w' := normalOrder_v A n c xs a w hS h hn ha

end Go.Proofs.YtpgaebdaakllaaaDoor

namespace Go.Proofs.YtpgaebdaakllaaaDoor
open Go.RowKit

theorem normalOrder_i (A : Option Addr) (n c : Nat) (a : Int) (xs : List Int) (w : World) (hS : Spans w) (h : Arr iv w w.heap.size (.slice A n c) xs) (hn : n ≤ 1000000000000000000) (h0 : 0 ≤ a) (ha : a < 256) :
    Calls Tryd.prog 6 #[.slice A n c, .int .u8 a] w fun e w' => e = .returned (.bool true) ∧ Below w.heap.size w w' := by
  obtain ⟨m, rfl⟩ : ∃ m : Nat, a = (m : Int) := ⟨a.toNat, by omega⟩
  exact normalOrder_u A n c m xs w hS h hn (by omega)

end Go.Proofs.YtpgaebdaakllaaaDoor
