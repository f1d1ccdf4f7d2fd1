/-
  The reference's composed.
-/
import Derived.Test.YtpgaebdaakllaaaDoorRefPair
namespace Go.Proofs.YtpgaebdaakllaaaDoor
open Go.RowKit

theorem zrow_other {r : Nat × List Nat × List Nat} {m : Nat} (c : Nat) (h : ¬ r.1 = m) : (zrow r).find? (fun x => Nat.beq x.2.1 c && Nat.beq x.2.2 m) = none := by
  rw [List.find?_eq_none]
  intro x hx
  unfold zrow at hx
  obtain ⟨p, _, rfl⟩ := List.mem_map.1 hx
  simp only
  rw [beq_false h, Bool.and_false]
  decide

set_option maxRecDepth 100000 in
set_option maxHeartbeats 3200000 in
theorem refComp_any (c m : Nat) (w : World) :
    Calls Tryd.prog 32 #[.int .i64 (c : Int), .int .i64 (m : Int)] w fun e w' => e = .returned (.int .i64 (compR c m : Int)) ∧ Below w.heap.size w w' := by
  obtain ⟨R, hR⟩ : ∃ R, compR c m = R := ⟨_, rfl⟩
  rw [hR]
  have HR := Lib.hid hR
  clear hR
  go_enter Tryd.func32, Tryd.ntmps32
  go_wp2_with fail
  refine (rows_any _).mono ?_
  rintro e w1 ⟨rfl, rfl⟩
  obtain ⟨w1, hw1⟩ : ∃ w1, w1 = w.alloc (.cells rowCells 53) := ⟨_, rfl⟩
  have hbox : Box w1 w.heap.size 53 rowCells := by rw [hw1]; exact Box.made _ _ _
  have hk1 : Below w.heap.size w w1 := by rw [hw1]; exact below_new (Below.refl _ _) _
  have hlt1 : w.heap.size < w1.heap.size := by rw [hw1]; simp
  rw [← hw1]
  clear hw1
  go_wp2
  go_loopw [6] (fun s wr => ∃ i : Nat, i ≤ 13 ∧ s = .int .i64 (i : Int) ∧ Hid (((rowL.take i).flatMap zrow).find? (fun x => Nat.beq x.2.1 c && Nat.beq x.2.2 m) = none) ∧ Below w1.heap.size w1 wr) (fun s _ => 13 - (intOf s).toNat)
  case atStart => exact ⟨0, by omega, rfl, Lib.hid rfl, Below.refl _ _⟩
  case round =>
    obtain ⟨i, hi, rfl, HF, hb⟩ := hrel
    by_cases hlt : i < 13
    · have t1 : decide ((i : Int) < ((13 : Nat) : Int)) = true := by simp; omega
      have iz : (i : Int) < ((13 : Nat) : Int) := by omega
      have iz2 : (i : Int) < 13 := by omega
      obtain ⟨hok1, hok2, hl12, hl100⟩ := row_facts hlt
      obtain ⟨c0, c1, c2⟩ := row_cells hbox hlt
      have c0 := (hb.cell (p := ⟨w.heap.size, i * 3, none⟩) hlt1).trans c0
      have c1 := (hb.cell (p := ⟨w.heap.size, i * 3 + 1, none⟩) hlt1).trans c1
      have c2 := (hb.cell (p := ⟨w.heap.size, i * 3 + 2, none⟩) hlt1).trans c2
      have hbs := hb.size
      obtain ⟨r, hr⟩ : ∃ r, rowAt i = r := ⟨_, rfl⟩
      have HNext := Lib.hid (rows_next hlt)
      have HSplit := Lib.hid (fun (p : Nat × Nat × Nat → Bool) (x : Nat × Nat × Nat) h h2 => find_split (p := p) hlt h (x := x) h2)
      rw [hr] at c0 c1 c2 hok1 hok2 hl12 hl100 HNext HSplit
      clear hr
      obtain ⟨mk, ls, bs⟩ := r
      simp only at c0 c1 c2 hok1 hok2 hl12 hl100
      by_cases hmk : mk = m
      case neg =>
        have t5 : ((mk : Int) != (m : Int)) = true := by simp; omega
        have HF2 : Hid (((rowL.take (i + 1)).flatMap zrow).find? (fun x => Nat.beq x.2.1 c && Nat.beq x.2.2 m) = none) := Lib.hid (by
          rw [HNext.out, List.find?_append, HF.out, Option.none_or]
          exact zrow_other _ hmk)
        go_wp2
        go_roundw
        case rel => exact ⟨i + 1, by omega, by go_num, HF2, hb⟩
        case measure => simp [intOf]; omega
      have t5 : ((mk : Int) != (m : Int)) = false := by rw [hmk]; simp
      have HMK := Lib.hid hmk
      clear hmk
      obtain ⟨N, hN⟩ : ∃ N, ls.length = N := ⟨_, rfl⟩
      have hN2 : bs.length = N := by omega
      have hN100 : N ≤ 100 := by omega
      have HD1 := Lib.hid fun W => decode_own ls N W hok1 hN (by omega)
      have HD2 := Lib.hid fun W => decode_own bs N W hok2 hN2 (by omega)
      have HZ : Hid ((zrow (mk, ls, bs)).length = N) := Lib.hid ((zrow_len (r := (mk, ls, bs)) hl12).trans hN)
      have HL1 := Lib.hid hN
      have HL2 := Lib.hid hN2
      clear hN hN2 hok1 hok2 hl12 hl100
      go_wp2_with fail
      refine (HD1.out _).mono ?_
      rintro e w2 ⟨A1, n1, rfl, ha1, k2⟩
      have c0 := (k2.cell (p := ⟨w.heap.size, i * 3, none⟩) (by show w.heap.size < _; omega)).trans c0
      have c2 := (k2.cell (p := ⟨w.heap.size, i * 3 + 2, none⟩) (by show w.heap.size < _; omega)).trans c2
      have k2s := k2.size
      go_wp2_with fail
      refine (HD2.out _).mono ?_
      rintro e w3 ⟨A2, n2, rfl, ha2, k3⟩
      have c0 := (k3.cell (p := ⟨w.heap.size, i * 3, none⟩) (by show w.heap.size < _; omega)).trans c0
      have ha1 := ha1.up k3
      have k3s := k3.size
      go_wp2
      go_loopw [11] (fun s wr => ∃ k : Nat, k ≤ N ∧ s = .int .i64 (k : Int) ∧ Hid (((zrow (mk, ls, bs)).take k).find? (fun x => Nat.beq x.2.1 c && Nat.beq x.2.2 m) = none) ∧ wr = w3) (fun s _ => N - (intOf s).toNat)
      case atStart => exact ⟨0, by omega, rfl, Lib.hid rfl, rfl⟩
      case round =>
        obtain ⟨k, hk, rfl, HG, rfl⟩ := hrel
        by_cases hkl : k < N
        · have t2 : decide ((k : Int) < (N : Int)) = true := by simp; omega
          have kz : (k : Int) < (N : Int) := by omega
          obtain ⟨b1, o1, rfl, hB1, hc1⟩ := ha1.some_ (by omega)
          obtain ⟨b2, o2, rfl, hB2, hc2⟩ := ha2.some_ (by omega)
          obtain ⟨x, hx⟩ : ∃ a, ls[k]? = some a := ⟨_, List.getElem?_eq_getElem (by have := HL1.out; omega)⟩
          obtain ⟨y, hy⟩ : ∃ a, bs[k]? = some a := ⟨_, List.getElem?_eq_getElem (by have := HL2.out; omega)⟩
          have d1 := hc1 k x hx
          have d2 := hc2 k y hy
          simp only [nv] at d1 d2
          obtain ⟨f1, f2⟩ := find_take (fun x => Nat.beq x.2.1 c && Nat.beq x.2.2 m) (zrow (mk, ls, bs)) k (x, y, mk) (zrow_get hx hy) HG.out
          by_cases hxc : y = c
          · have t3 : ((y : Int) == (c : Int)) = true := by rw [hxc]; simp
            have HE : Hid (R = x) := Lib.hid (by rw [← HR.out, compR_some (HSplit.out _ _ HF.out (f1 (by rw [hxc, HMK.out, beq_true, beq_true]; rfl)))])
            clear hc1 hc2 hx hy f1 f2 hxc
            go_wp2
            go_ret
            rw [HE.out]
            exact ⟨rfl, below_next hk1 (below_next hb (below_next k2 k3))⟩
          · have t3 : ((y : Int) == (c : Int)) = false := eqb_false (by omega)
            have HG2 := Lib.hid (f2 (by rw [beq_false hxc]; rfl))
            clear hc1 hc2 hx hy f1 f2 hxc
            go_wp2
            go_roundw
            case rel => exact ⟨k + 1, by omega, by go_num, HG2, trivial⟩
            case measure => simp [intOf]; omega
        · obtain rfl : k = N := by omega
          have t2 : decide ((k : Int) < (k : Int)) = false := by simp
          have HF2 : Hid (((rowL.take (i + 1)).flatMap zrow).find? (fun x => Nat.beq x.2.1 c && Nat.beq x.2.2 m) = none) := Lib.hid (by
            rw [HNext.out, List.find?_append, HF.out]
            have h := HG.out
            rw [List.take_of_length_le (by rw [HZ.out]; omega)] at h
            rw [h]
            rfl)
          go_wp2
          go_roundw
          case rel => exact ⟨i + 1, by omega, by go_num, HF2, below_next hb (below_next k2 k3)⟩
          case measure => simp [intOf]; omega
    · obtain rfl : i = 13 := by omega
      have HE : Hid (R = 0) := Lib.hid (by rw [← HR.out, compR_none (by have h := HF.out; rw [rows_all] at h; exact h)])
      go_wp2
      go_ret
      rw [HE.out]
      exact ⟨rfl, below_next hk1 hb⟩

end Go.Proofs.YtpgaebdaakllaaaDoor
