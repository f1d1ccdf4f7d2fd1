/-
  The reference's Shift.
-/
import Derived.Test.YtheadamdhjhnpaaDoorRefInt
import Derived.Deep.RegionHeld3
import Derived.Deep.RegionLaw
namespace Go.Proofs.YtheadamdhjhnpaaDoor
open Go.RowKit

def shiftR : Option Nat → Int → Except Nat Nat
  | some a, n => if n < 0 ∨ 2047 < n then .error 2 else limit (a * 2 ^ n.toNat)
  | none, _ => .error 1

theorem limited_arr (W : World) (A : Option Addr) (n c : Nat) (l : List Nat) (w : World) (hk : Below W.heap.size W w) (h : Arr nv w w.heap.size (.slice A n c) l) (hl : Dig l) (hn : n ≤ 1000000) (r : Except Nat Nat) (hr : limit (vl l) = r) :
    Calls Tryd.prog 51 #[.slice A n c] w fun e w' => ResEnd r e w' ∧ Below W.heap.size W w' := by
  subst hr
  have HT : Hid (tr l = dg (vl l)) := Lib.hid (tr_eq _ hl)
  have HK : Hid (Below W.heap.size W w) := Lib.hid hk
  go_enter Tryd.func51, Tryd.ntmps51
  go_wp2_with fail
  refine (trim_at W A _ c _ _ _ hk h HT.out (by omega)).mono ?_
  rintro e w1 ⟨A1, c1, rfl, h2, k2⟩
  by_cases hlen : (dg (vl l)).length ≤ 128
  · have t1 : decide (128 < ((dg (vl l)).length : Int)) = false := by simp; omega
    have HR : Hid (limit (vl l) = .ok (vl l)) := Lib.hid (limit_ok hlen)
    go_wp2
    go_ret2
    rw [HR.out]
    exact ⟨ResEnd.ok ⟨A1, c1, rfl, h2⟩, k2⟩
  · have t1 : decide (128 < ((dg (vl l)).length : Int)) = true := by simp; omega
    have HR : Hid (limit (vl l) = .error 3) := Lib.hid (by unfold limit; rw [if_neg (fun hc => hlen (dg_len_pw hc))])
    go_wp2
    go_ret2
    rw [HR.out]
    exact ⟨ResEnd.err 3, k2⟩

theorem dg_small {n : Nat} (h0 : n ≠ 0) (h : n < 65536) : dg n = [n] := by
  rw [dg_pos h0, show n / 65536 = 0 from by omega, dg_zero, show n % 65536 = n from by omega]
theorem Num.box {w : World} {g n : Nat} (h : Box w g 3 #[.int .i64 (n : Int)]) (h0 : n ≠ 0) (h1 : n < 65536) : Num w (.slice (some ⟨g, 0, none⟩) 1 1) n := by
  refine ⟨_, 1, by rw [dg_small h0 h1]; rfl, ?_⟩
  rw [dg_small h0 h1]
  refine (Arr.of_box h rfl (Nat.le_refl _) ?_).more h.lt
  intro i u hu
  cases i with
  | zero => simp at hu; subst hu; rfl
  | succ i => simp at hu
theorem times_pow (W : World) (A : Option Addr) (n c g a S : Nat) (w : World) (hA : Num W (.slice A n c) a) (hk : Below W.heap.size W w) (hb : Box w g 3 #[.int .i64 (S : Int)]) (ha : a < pw 128) (h0 : S ≠ 0) (h1 : S < 65536) :
    Calls Tryd.prog 56 #[.slice A n c, .slice (some ⟨g, 0, none⟩) 1 1] w fun e w' => ∃ r, e = .returned r ∧ Num w' r (a * S) ∧ Below W.heap.size W w' ∧ Below w.heap.size w w' :=
  times_num W _ _ a S w hk (hA.up hk) (Num.box hb h0 h1) (sn_of ha).sm (Nat.lt_of_lt_of_le (by unfold pw; omega : S < pw 1) (pw_mono (by omega)))
theorem below_one (w : World) (o : Obj) : Below w.heap.size w (w.alloc o).drew := (((Below.refl _ w).alloc (Nat.le_refl _) o).drew)
theorem below_two (w : World) (o p : Obj) : Below w.heap.size w ((w.alloc o).alloc p).drew := (below_new ((Below.refl _ w).alloc (Nat.le_refl _) o) p).drew
theorem box_one (w : World) (t : TypeId) (cs : Array Value) : Box (w.alloc (.cells cs t)).drew w.heap.size t cs := Box.made w t cs
theorem box_first (w : World) (t : TypeId) (cs : Array Value) (o : Obj) : Box ((w.alloc (.cells cs t)).alloc o).drew w.heap.size t cs := (Box.made w t cs).alloc o
theorem box_second (w : World) (t : TypeId) (cs : Array Value) (o : Obj) : Box ((w.alloc o).alloc (.cells cs t)).drew (w.heap.size + 1) t cs := by
  have h := Box.made (w.alloc o) t cs
  rw [show (w.alloc o).heap.size = w.heap.size + 1 from by simp] at h
  exact h
theorem le_two (w : World) (o p : Obj) : w.heap.size < ((w.alloc o).alloc p).drew.heap.size := by simp [World.drew]; omega
theorem le_two2 (w : World) (o p : Obj) : w.heap.size + 1 < ((w.alloc o).alloc p).drew.heap.size := by simp [World.drew]
theorem le_new {B : Nat} {w : World} (h : B ≤ w.heap.size) (o : Obj) : B ≤ (w.alloc o).heap.size := Nat.le_trans h (by simp)
theorem size_two (w : World) (o p : Obj) : ((w.alloc o).alloc p).drew.heap.size = w.heap.size + 2 := by simp [World.drew]
theorem own_zeros {w : World} {base g K : Nat} (h : Box w g 3 (cellsOf (List.replicate K 0))) (hK : K ≤ 1000) (hg : base ≤ g) :
    w.ownsRow base 3 1 (.slice (some ⟨g, 0, none⟩) K K) (List.replicate K 0).length ((List.replicate K 0).map nv) := by
  have := own_box h (n := K) (c := K) (by rw [cellsOf_size, List.length_replicate]) (Nat.le_refl _) (by unfold maxLen; omega) hg
  have e : (cellsOf (List.replicate K 0)).toList.take K = (List.replicate K 0).map nv := by
    unfold cellsOf
    exact List.take_of_length_le (by simp)
  rw [e] at this
  rw [List.length_replicate]
  exact this

theorem step_ints {ops : Array Oper} {o : Oper} {a : Act} {K : Act → World → Prop} {Q : Exit → Act → World → Prop} {E : Prop} (w : World) (hgd : o.guard = none) (s x : Operand)
    (ho : o.op = .call { callee := .builtin .append, args := #[s, x], argTypes := #[22, 22] })
    (base B : Nat) (v : Value) (xs : List Nat) (hs : a.eval s = v) (hown : w.ownsRow base 3 1 v xs.length (xs.map nv))
    (news : List Nat) (src : Value) (hx : a.eval x = src) (hsl : Arr nv w B src news) (hlen : xs.length + news.length ≤ 1000000000000) (hbase : base ≤ w.heap.size)
    (h : ∀ v' w', w'.ownsRow base 3 1 v' (xs ++ news).length ((xs ++ news).map nv) → Below base w w' → K (a.put o.dst v') w') :
    if Region.wanted o (yielded ops a.tmps) = true then Oper.wp Tryd.prog o a w K Q else E :=
  step_append 22 3 (.int .i64 0) 8 Tryd.underlying22 info_int rfl (by decide) one_nv w hgd s x ho base B v xs hs hown news src hx hsl hlen hbase h

theorem vl_zeros_app (k : Nat) (l : List Nat) : vl (List.replicate k 0 ++ l) = 65536 ^ k * vl l := by
  rw [vl_append, List.length_replicate]
  have : vl (List.replicate k 0) = 0 := by
    induction k with
    | zero => rfl
    | succ k ih => rw [List.replicate_succ, vl, ih]
  rw [this, Nat.zero_add]
theorem dig_zeros (k n : Nat) : Dig (List.replicate k 0 ++ dg n) := by
  refine Dig.append ?_ (dig_dg n)
  intro d hd
  have := List.eq_of_mem_replicate hd
  omega
theorem shift_eq {a K R P : Nat} (h : P = 16 * K + R) : vl (List.replicate K 0 ++ dg (a * 2 ^ R)) = a * 2 ^ P := by
  rw [vl_zeros_app, vl_dg, h, Nat.pow_add, show (65536 : Nat) = 2 ^ 16 from rfl, ← Nat.pow_mul, Nat.mul_left_comm]

theorem hbx_a {w w2 : World} {o : Obj} {K : Nat} (k3 : Below ((w.alloc (.cells (cellsOf (List.replicate K 0)) 3)).alloc o).drew.heap.size ((w.alloc (.cells (cellsOf (List.replicate K 0)) 3)).alloc o).drew w2) (hK : K < 128) :
    w2.ownsRow w.heap.size 3 1 (.slice (some ⟨w.heap.size, 0, none⟩) K K) (List.replicate K 0).length ((List.replicate K 0).map nv) :=
  own_zeros ((box_first w 3 (cellsOf (List.replicate K 0)) _).below k3 (le_two w _ _)) (by omega) (Nat.le_refl _)
theorem hbx_b {w w2 : World} {o : Obj} {K : Nat} (k3 : Below ((w.alloc o).alloc (.cells (cellsOf (List.replicate K 0)) 3)).drew.heap.size ((w.alloc o).alloc (.cells (cellsOf (List.replicate K 0)) 3)).drew w2) (hK : K < 128) :
    w2.ownsRow w.heap.size 3 1 (.slice (some ⟨w.heap.size + 1, 0, none⟩) K K) (List.replicate K 0).length ((List.replicate K 0).map nv) :=
  own_zeros ((box_second w 3 (cellsOf (List.replicate K 0)) _).below k3 (le_two2 w _ _)) (by omega) (Nat.le_succ _)

set_option maxRecDepth 20000 in
set_option maxHeartbeats 1600000 in
theorem refShift_any (A : Option Addr) (n c : Nat) (xs : List Int) (p : Int) (w : World) (h : Arr iv w w.heap.size (.slice A n c) xs) (hn : n ≤ 9223372036854775807) :
    Calls Tryd.prog 36 #[.slice A n c, .int .i64 p] w fun e w' => ResEnd (shiftR (numOf xs) p) e w' ∧ Below w.heap.size w w' := by
  cases hx : numOf xs with
  | none =>
    have HV := Lib.hid (numOf_none hx)
    go_enter Tryd.func36, Tryd.ntmps36
    go_wp2_with fail
    refine (valid_of A n c xs false HV.out _ h hn).mono ?_
    rintro e w1 ⟨rfl, rfl⟩
    go_wp2
    go_ret2
    exact ⟨ResEnd.err 1, Below.refl _ _⟩
  | some a =>
    obtain ⟨hv, ha, hxs⟩ := numOf_some hx
    have hA := arg_num h hx
    have HV := Lib.hid hv
    have HA := Lib.hid ha
    clear hv hx hxs ha
    by_cases hneg : p < 0
    · have t1 : decide (p < 0) = true := by simpa using hneg
      have HR : Hid (shiftR (some a) p = .error 2) := Lib.hid (if_pos (.inl hneg))
      clear hneg
      go_enter Tryd.func36, Tryd.ntmps36
      go_wp2_with fail
      refine (valid_of A n c xs true HV.out _ h hn).mono ?_
      rintro e w1 ⟨rfl, rfl⟩
      go_wp2
      go_ret2
      rw [HR.out]
      exact ⟨ResEnd.err 2, Below.refl _ _⟩
    · have t1 : decide (p < 0) = false := by simpa using hneg
      by_cases hbig : 2047 < p
      · have t2 : decide (2047 < p) = true := by simpa using hbig
        have HR : Hid (shiftR (some a) p = .error 2) := Lib.hid (if_pos (.inr hbig))
        clear hneg hbig
        go_enter Tryd.func36, Tryd.ntmps36
        go_wp2_with fail
        refine (valid_of A n c xs true HV.out _ h hn).mono ?_
        rintro e w1 ⟨rfl, rfl⟩
        go_wp2
        go_ret2
        rw [HR.out]
        exact ⟨ResEnd.err 2, Below.refl _ _⟩
      · obtain ⟨P, rfl⟩ : ∃ P : Nat, p = (P : Int) := ⟨p.toNat, by omega⟩
        have hP : P ≤ 2047 := by omega
        have t2 : decide (2047 < (P : Int)) = false := by simp; omega
        have HR : Hid (shiftR (some a) (P : Int) = limit (a * 2 ^ P)) := Lib.hid (by
          show (if (P : Int) < 0 ∨ 2047 < (P : Int) then Except.error 2 else limit (a * 2 ^ (P : Int).toNat)) = _
          rw [if_neg (by omega), Int.toNat_natCast])
        obtain ⟨K, hK⟩ : ∃ K, K = P / 16 := ⟨_, rfl⟩
        obtain ⟨R, hR⟩ : ∃ R, R = P % 16 := ⟨_, rfl⟩
        have hR16 : R < 16 := by omega
        have hK128 : K < 128 := by omega
        have hmk : ∀ W : World, (Instr.makeSlice 22 (.int .i64 (K : Int)) (.int .i64 (K : Int))).run Tryd.prog W = .ok (.slice (some ⟨W.heap.size, 0, none⟩) K K) (W.alloc (.cells (cellsOf (List.replicate K 0)) 3)) := fun W => by
          rw [← cellsOf_made]; exact make_ints K K (Nat.le_refl _) (by omega) W
        have e1 : (P : Int) / 16 = (K : Int) := by omega
        have e0 : IntKind.i64.wrap (K : Int) = (K : Int) := wraps_i64 _ (by omega) (by omega)
        have e2 : (P : Int).tmod 16 = (R : Int) := by rw [Int.tmod_eq_emod_of_nonneg (by omega)]; omega
        obtain ⟨S, hS⟩ : ∃ S, S = 2 ^ R := ⟨_, rfl⟩
        have hS2 : S ≤ 2 ^ 15 := by rw [hS]; exact Nat.pow_le_pow_right (by omega) (by omega)
        have hS0 : 0 < S := by rw [hS]; exact Nat.pow_pos (by omega)
        have hS3 : ((2 : Int) ^ R) = (S : Int) := by rw [hS]; simp
        have hS4 : S < 65536 := by omega
        have e3 : IntKind.i64.wrap ((2 : Int) ^ R) = (S : Int) := by rw [hS3]; exact wraps_i64 _ (by omega) (by omega)
        have HE : Hid (limit (vl (List.replicate K 0 ++ dg (a * S))) = shiftR (some a) (P : Int)) := Lib.hid (by rw [HR.out, hS, shift_eq (K := K) (R := R) (P := P) (by omega)])
        have HL : Hid (K + (dg (a * S)).length ≤ 1200) := Lib.hid (by
          have h1 : Sm (a * S) := by
            have h1 : a * S < pw 128 * pw 1 := Nat.mul_lt_mul'' HA.out (by unfold pw; omega)
            have h2 : pw 128 * pw 1 = pw 129 := by unfold pw; rw [← Nat.pow_add]
            rw [h2] at h1
            exact Nat.lt_of_lt_of_le h1 (pw_mono (by omega))
          have := h1.len
          omega)
        have hSne : S ≠ 0 := by omega
        have hlenK : (List.replicate K 0).length + (dg (a * S)).length ≤ 1000000000000 := by rw [List.length_replicate]; have := HL.out; omega
        clear hK hR hS hS2 hS0 hS3 HR
        clear hneg hbig
        go_enter Tryd.func36, Tryd.ntmps36
        go_wp2_with fail
        refine (valid_of A n c xs true HV.out _ h hn).mono ?_
        rintro e w1 ⟨rfl, rfl⟩
        go_wp2_with fail
        go_region_held3 (fun _ => True) (trivial)
          (first
            | (go_at_call 56; (with_reducible refine (times_pow w A n c (w.heap.size + 1) a S _ hA (below_two _ _ _) (box_second _ _ _ _) HA.out hSne hS4).mono ?_); rintro e w2 ⟨r, rfl, ⟨Ar, cr, rfl, hr⟩, k2, k3⟩; have hbxA := hbx_a k3 hK128)
            | (go_at_call 56; (with_reducible refine (times_pow w A n c w.heap.size a S _ hA (below_two _ _ _) (box_first _ _ _ _) HA.out hSne hS4).mono ?_); rintro e w2 ⟨r, rfl, ⟨Ar, cr, rfl, hr⟩, k2, k3⟩; have hbxB := hbx_b k3 hK128)
            | (go_at_call 56; (with_reducible refine (times_pow w A n c w.heap.size a S _ hA (below_one _ _) (box_one _ _ _) HA.out hSne hS4).mono ?_); rintro e w2 ⟨r, rfl, ⟨Ar, cr, rfl, hr⟩, k2, k3⟩)
            | (have hq := hbxA; refine step_ints w2 (by rfl) (.tmp 20) (.tmp 26) (by rfl) w.heap.size w2.heap.size (.slice (some ⟨w.heap.size, 0, none⟩) K K) (List.replicate K 0) (by rfl) (hq) (dg (a * S)) (.slice Ar _ cr) (by rfl) hr hlenK k2.size ?_; intro v1 w3 hown1 hb3)
            | (have hq := hbxB; refine step_ints w2 (by rfl) (.tmp 20) (.tmp 26) (by rfl) w.heap.size w2.heap.size (.slice (some ⟨w.heap.size + 1, 0, none⟩) K K) (List.replicate K 0) (by rfl) (hq) (dg (a * S)) (.slice Ar _ cr) (by rfl) hr hlenK k2.size ?_; intro v1 w3 hown1 hb3)
            | (have hq := k2; refine step_ints (w2.alloc (.cells (cellsOf (List.replicate K 0)) 3)) (by rfl) (.tmp 20) (.tmp 26) (by rfl) w.heap.size w2.heap.size (.slice (some ⟨w2.heap.size, 0, none⟩) K K) (List.replicate K 0) (by rfl) (own_zeros (Box.made w2 _ _) (Nat.le_of_lt (Nat.lt_trans hK128 (by decide))) k2.size) (dg (a * S)) (.slice Ar _ cr) (by rfl) (hr.below ((Below.refl _ _).alloc (Nat.le_refl _) _)) hlenK (le_new k2.size _) ?_; intro v1 w3 hown1 hb3))
        all_goals
          have hA1 := Arr.of_own hown1
          have k4 : Below w.heap.size w w3 := by first | exact k2.trans hb3 | exact (below_new k2 _).trans hb3
          have hl3 : (List.replicate K 0 ++ dg (a * S)).length ≤ 1000000 := by rw [List.length_append, List.length_replicate]; have := HL.out; omega
          have hdg := dig_zeros K (a * S)
          have HE2 := HE
          clear hown1
          generalize List.replicate K 0 ++ dg (a * S) = L at hA1 HE2 hl3 hdg
          obtain ⟨A1, c1, rfl⟩ := hA1.form
          have HL2 := Lib.hid hl3
          have HD2 := Lib.hid hdg
          clear hl3 hdg hlenK
          go_wp2_with fail
          refine (limited_arr w A1 _ c1 _ _ k4 hA1 HD2.out HL2.out _ HE2.out).mono ?_
          rintro e w4 ⟨⟨A4, c4, rfl, h4⟩, k5⟩
          go_wp2
          go_ret2
          exact ⟨⟨A4, c4, rfl, h4⟩, k5⟩

end Go.Proofs.YtheadamdhjhnpaaDoor
