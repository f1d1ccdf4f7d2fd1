/-
  The reference's Of and Power.
-/
import Derived.Test.YtheadamdhjhnpaaDoorRefGcd
namespace Go.Proofs.YtheadamdhjhnpaaDoor
open Go.RowKit

def ofR (n : Int) : Except Nat Nat := if n < 0 then .error 2 else .ok n.toNat

set_option maxHeartbeats 1600000 in
theorem refOf_any (n : Int) (hn : n ≤ 9223372036854775807) (w : World) :
    Calls Tryd.prog 15 #[.int .i64 n] w fun e w' => ResEnd (ofR n) e w' ∧ Below w.heap.size w w' := by
  by_cases hneg : n < 0
  · have t1 : decide (n < 0) = true := by simpa using hneg
    have HR : Hid (ofR n = .error 2) := Lib.hid (by unfold ofR; rw [if_pos hneg])
    clear hneg
    go_enter Tryd.func15, Tryd.ntmps15
    go_wp2
    go_ret2
    rw [HR.out]
    exact ⟨ResEnd.err 2, Below.refl _ _⟩
  · obtain ⟨N, rfl⟩ : ∃ N : Nat, n = (N : Int) := ⟨n.toNat, by omega⟩
    have t1 : decide ((N : Int) < 0) = false := by simp
    have HR : Hid (ofR (N : Int) = .ok N) := Lib.hid (by unfold ofR; rw [if_neg hneg, Int.toNat_natCast])
    have hN : N < 65536 ^ 4 := by simp only [Nat.reducePow]; omega
    have HL : Hid ((dg N).length ≤ 4) := Lib.hid (dg_length.2 hN)
    clear hneg hN
    go_enter Tryd.func15, Tryd.ntmps15
    go_wp2
    go_loopw [0, 4] (fun x out wr => ∃ (m : Nat) (ls : List Nat), m ≤ N ∧ x = .int .i64 (m : Int) ∧ Hid (ls ++ dg m = dg N) ∧ wr.ownsRow w.heap.size 3 1 out ls.length (ls.map nv) ∧ Below w.heap.size w wr) (fun x _ _ => (intOf x).toNat)
    case atStart => exact ⟨N, [], by omega, rfl, Lib.hid rfl, World.ownsRow_nil _ _ _ _, Below.refl _ _⟩
    case round =>
      obtain ⟨m, ls, hm, rfl, HD, hown, hbel⟩ := hrel
      by_cases h0 : m = 0
      · subst h0
        have hE : ls = dg N := by have := HD.out; rw [dg_zero, List.append_nil] at this; exact this
        have HE := Lib.hid hE
        clear hE
        go_wp2
        go_ret2
        rw [HR.out]
        rw [HE.out] at hown
        have hA := Arr.of_own hown
        obtain ⟨A1, c1, rfl⟩ := hA.form
        exact ⟨ResEnd.ok ⟨A1, c1, rfl, hA⟩, hbel⟩
      · have t2 : decide (0 < (m : Int)) = true := by simp; omega
        have hD2 : (ls ++ [m % 65536]) ++ dg (m / 65536) = dg N := by rw [← HD.out, dg_pos h0, List.append_assoc]; rfl
        have hxx : ls.length + 1 ≤ 4 := by
          have h2 := HL.out
          rw [← hD2, List.length_append, List.length_append, List.length_singleton] at h2
          omega
        have HD2 := Lib.hid hD2
        have hsz := hbel.size
        have hdec : m / 65536 < m := by omega
        clear hD2
        go_wp2_with (at_builtin; refine append_int wr rfl (.tmp 9) (.tmp 12) rfl w.heap.size u4 ls rfl hown (m % 65536) _ (by unfold nv; exact value_int (by omega)) rfl (by omega) hsz ?_; intro r1 w1 hown1 hb1)
        go_roundw
        case rel => exact ⟨m / 65536, _, by omega, by go_num, HD2, hown1, hbel.trans hb1⟩
        case measure => simp [intOf]; exact hdec

def powR : Option Nat → Int → Except Nat Nat
  | some a, n => if n < 0 ∨ 1000 < n then .error 2 else limit (a ^ n.toNat)
  | none, _ => .error 1

theorem mul_ok (v : Value) (A' : Option Addr) (n' c' m a : Nat) (ys : List Int) (w : World) (h : Num w v m) (h' : Arr iv w w.heap.size (.slice A' n' c') ys) (hn' : n' ≤ 9223372036854775807) (hm : m < pw 128) (hy : numOf ys = some a) (hp : m * a < pw 128) :
    Calls Tryd.prog 30 #[v, .slice A' n' c'] w fun e w' => ∃ r, e = .returned (.tuple #[r, .int .i64 0]) ∧ Num w' r (m * a) ∧ Below w.heap.size w w' := by
  obtain ⟨A, c, rfl, h1⟩ := h
  have l1 := (sn_of hm).sm.len
  refine (refMul_any A A' _ n' c c' _ ys w h1.int h' (by omega) hn').mono fun e w' h => ?_
  rw [numOf_dg hm, hy] at h
  have e1 : mulR (some m) (some a) = .ok (m * a) := if_pos hp
  rw [e1] at h
  obtain ⟨⟨A3, c3, e3, h3⟩, hb⟩ := h
  exact ⟨_, e3, ⟨A3, c3, rfl, h3⟩, hb⟩
theorem mul_big (v : Value) (A' : Option Addr) (n' c' m a : Nat) (ys : List Int) (w : World) (h : Num w v m) (h' : Arr iv w w.heap.size (.slice A' n' c') ys) (hn' : n' ≤ 9223372036854775807) (hm : m < pw 128) (hy : numOf ys = some a) (hp : ¬ m * a < pw 128) :
    Calls Tryd.prog 30 #[v, .slice A' n' c'] w fun e w' => ∃ r, e = .returned (.tuple #[r, .int .i64 3]) ∧ Below w.heap.size w w' := by
  obtain ⟨A, c, rfl, h1⟩ := h
  have l1 := (sn_of hm).sm.len
  refine (refMul_any A A' _ n' c c' _ ys w h1.int h' (by omega) hn').mono fun e w' h => ?_
  rw [numOf_dg hm, hy] at h
  have e1 : mulR (some m) (some a) = .error 3 := if_neg hp
  rw [e1] at h
  obtain ⟨⟨A3, c3, e3, h3⟩, hb⟩ := h
  exact ⟨_, e3, hb⟩

theorem pow_big {a k n : Nat} (hk : k < n) (h : ¬ a ^ k * a < pw 128) : limit (a ^ n) = .error 3 := by
  unfold limit
  refine if_neg fun hc => h ?_
  rw [← Nat.pow_succ]
  by_cases ha : a = 0
  · subst ha
    rw [Nat.pow_succ, Nat.mul_zero]
    exact Nat.pow_pos (by omega)
  · exact Nat.lt_of_le_of_lt (Nat.pow_le_pow_right (by omega) hk) hc

theorem one_pw : 1 < pw 128 := Nat.lt_of_lt_of_le (show 1 < pw 1 by unfold pw; omega) (pw_mono (by omega))

set_option maxHeartbeats 1600000 in
theorem refPower_any (A : Option Addr) (n c : Nat) (xs : List Int) (p : Int) (w : World) (h : Arr iv w w.heap.size (.slice A n c) xs) (hn : n ≤ 9223372036854775807) :
    Calls Tryd.prog 34 #[.slice A n c, .int .i64 p] w fun e w' => ResEnd (powR (numOf xs) p) e w' ∧ Below w.heap.size w w' := by
  cases hx : numOf xs with
  | none =>
    have HV := Lib.hid (numOf_none hx)
    go_enter Tryd.func34, Tryd.ntmps34
    go_wp2_with fail
    refine (valid_of A n c xs false HV.out _ h hn).mono ?_
    rintro e w1 ⟨rfl, rfl⟩
    go_wp2
    go_ret2
    exact ⟨ResEnd.err 1, Below.refl _ _⟩
  | some a =>
    obtain ⟨hv, _, _⟩ := numOf_some hx
    have HX := Lib.hid hx
    have HV := Lib.hid hv
    clear hv hx
    by_cases hneg : p < 0
    · have t1 : decide (p < 0) = true := by simpa using hneg
      have HR : Hid (powR (some a) p = .error 2) := Lib.hid (if_pos (.inl hneg))
      clear hneg
      go_enter Tryd.func34, Tryd.ntmps34
      go_wp2_with fail
      refine (valid_of A n c xs true HV.out _ h hn).mono ?_
      rintro e w1 ⟨rfl, rfl⟩
      go_wp2
      go_ret2
      rw [HR.out]
      exact ⟨ResEnd.err 2, Below.refl _ _⟩
    · have t1 : decide (p < 0) = false := by simpa using hneg
      by_cases hbig : 1000 < p
      · have t2 : decide (1000 < p) = true := by simpa using hbig
        have HR : Hid (powR (some a) p = .error 2) := Lib.hid (if_pos (.inr hbig))
        clear hneg hbig
        go_enter Tryd.func34, Tryd.ntmps34
        go_wp2_with fail
        refine (valid_of A n c xs true HV.out _ h hn).mono ?_
        rintro e w1 ⟨rfl, rfl⟩
        go_wp2
        go_ret2
        rw [HR.out]
        exact ⟨ResEnd.err 2, Below.refl _ _⟩
      · obtain ⟨P, rfl⟩ : ∃ P : Nat, p = (P : Int) := ⟨p.toNat, by omega⟩
        have hP : P ≤ 1000 := by omega
        have t2 : decide (1000 < (P : Int)) = false := by simp; omega
        have HR : Hid (powR (some a) (P : Int) = limit (a ^ P)) := Lib.hid (by show (if (P : Int) < 0 ∨ 1000 < (P : Int) then Except.error 2 else limit (a ^ (P : Int).toNat)) = _; rw [if_neg (by omega), Int.toNat_natCast])
        clear hneg hbig
        go_enter Tryd.func34, Tryd.ntmps34
        go_wp2_with fail
        refine (valid_of A n c xs true HV.out _ h hn).mono ?_
        rintro e w1 ⟨rfl, rfl⟩
        go_wp2
        go_loopw [6, 7, 8, 9] (fun out i _ _ wr => ∃ k : Nat, k ≤ P ∧ i = .int .i64 (k : Int) ∧ Hid (a ^ k < pw 128) ∧ Num wr out (a ^ k) ∧ Below w.heap.size w wr) (fun _ i _ _ _ => P - (intOf i).toNat)
        case atStart => exact ⟨0, by omega, rfl, Lib.hid one_pw, Num.one w, (Below.refl _ _).alloc (Nat.le_refl _) _⟩
        case round =>
          obtain ⟨k, hk, rfl, HK, hnum, hbel⟩ := hrel
          by_cases hlt : k < P
          · have i0 : (k : Int) < (P : Int) := by omega
            have hup : Arr iv wr wr.heap.size (.slice A n c) xs := h.up hbel
            by_cases hp : a ^ k * a < pw 128
            · have HP : Hid (a ^ (k + 1) < pw 128) := Lib.hid (by rw [Nat.pow_succ]; exact hp)
              have HM := Lib.hid hp
              clear hp
              go_wp2_with fail
              refine (mul_ok _ A n c (a ^ k) a xs wr hnum hup hn HK.out HX.out HM.out).mono ?_
              rintro e w2 ⟨r, rfl, hr, k2⟩
              go_wp2
              go_roundw
              case rel => exact ⟨k + 1, by omega, by go_num, HP, by rw [Nat.pow_succ]; exact hr, below_next hbel k2⟩
              case measure => simp [intOf]; omega
            · have HP : Hid (limit (a ^ P) = .error 3) := Lib.hid (pow_big hlt hp)
              have HM := Lib.hid hp
              clear hp
              go_wp2_with fail
              refine (mul_big _ A n c (a ^ k) a xs wr hnum hup hn HK.out HX.out HM.out).mono ?_
              rintro e w2 ⟨r, rfl, k2⟩
              go_wp2
              go_ret2
              rw [HR.out, HP.out]
              exact ⟨ResEnd.err 3, below_next hbel k2⟩
          · obtain rfl : k = P := by omega
            have HP : Hid (limit (a ^ k) = .ok (a ^ k)) := Lib.hid (if_pos HK.out)
            go_wp2
            go_ret2
            rw [HR.out, HP.out]
            exact ⟨ResEnd.ok hnum, hbel⟩

end Go.Proofs.YtheadamdhjhnpaaDoor
