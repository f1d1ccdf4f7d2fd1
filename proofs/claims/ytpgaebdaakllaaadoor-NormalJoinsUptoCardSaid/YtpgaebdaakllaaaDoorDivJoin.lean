/-
  The program's divide.
  The program's join.
-/
import Derived.Test.YtpgaebdaakllaaaDoorRows2
import Derived.BigQuiet
import Derived.Deep.RegionWith
namespace Go.Proofs.YtpgaebdaakllaaaDoor
open Go.RowKit

set_option maxRecDepth 100000 in
set_option maxHeartbeats 6400000 in
theorem prDivide_any (c : Nat) (w : World) (hc : c < 2048) :
    Calls Tryd.prog 54 #[.int .i64 (c : Int)] w fun e w' => e = .returned (.tuple #[.int .i64 ((pairR c).1 : Int), .int .i64 ((pairR c).2 : Int), .bool (pairL.any fun x => Nat.beq x.1 c)]) ∧ Below w.heap.size w w' := by
  obtain ⟨R, hR⟩ : ∃ R, pairR c = R := ⟨_, rfl⟩
  obtain ⟨B, hB⟩ : ∃ B, (pairL.any fun x => Nat.beq x.1 c) = B := ⟨_, rfl⟩
  rw [hR, hB]
  have HR := Lib.hid hR
  have HB := Lib.hid hB
  clear hR hB
  have HRo := Lib.hid (prRows_any w)
  go_enter Tryd.func54, Tryd.ntmps54
  go_wp2_with fail
  refine HRo.out.mono ?_
  rintro e w1 ⟨rfl, hk1⟩
  go_wp2
  go_loopw [6, 7, 9] (fun _ _ s wr => ∃ i : Nat, i ≤ 13 ∧ s = .int .i64 (i : Int) ∧ Hid (((rowL.take i).flatMap zrow).find? (fun x => Nat.beq x.1 c) = none) ∧ Below w.heap.size w wr) (fun _ _ s _ => 13 - (intOf s).toNat)
  case atStart => exact ⟨0, by omega, rfl, Lib.hid rfl, hk1⟩
  case round =>
    obtain ⟨i, hi, rfl, HF, hb⟩ := hrel
    by_cases hlt : i < 13
    · have t1 : decide ((i : Int) < 13) = true := by simp; omega
      have iz : (i : Int) < 13 := by omega
      obtain ⟨hok1, hok2, hl12, hl100⟩ := row_facts hlt
      obtain ⟨⟨hs1, hf1⟩, hs2, _⟩ := row_small hlt
      have hix := row_index i hlt
      unfold rowTri at hix
      have HNext := Lib.hid (rows_next hlt)
      have HSplit := Lib.hid (fun (p : Nat × Nat × Nat → Bool) (x : Nat × Nat × Nat) h h2 => find_split (p := p) hlt h (x := x) h2)
      obtain ⟨r, hr⟩ : ∃ r, rowAt i = r := ⟨_, rfl⟩
      rw [hr] at hok1 hok2 hl12 hl100 hs1 hf1 hs2 hix HNext HSplit
      clear hr
      obtain ⟨mk, ls, bs⟩ := r
      simp only at hok1 hok2 hl12 hl100 hs1 hf1 hs2 hix
      have HPl := Lib.hid fun W => prPlace_any ls c W hok1 hs1 hc (by have := enc_short hl100; omega) hf1
      have HAt := Lib.hid fun (k x : Nat) W (h : bs[k]? = some x) => prAt_any bs k x W hok2 h (by omega)
      have HL := Lib.hid hl12
      obtain ⟨S1, hS1⟩ : ∃ S, str (encL ls) = S := ⟨_, rfl⟩
      obtain ⟨S2, hS2⟩ : ∃ S, str (encL bs) = S := ⟨_, rfl⟩
      rw [hS1] at HPl hix
      rw [hS2] at HAt hix
      clear hok1 hok2 hl12 hl100 hs1 hf1 hs2 hS1 hS2
      go_wp2_with fail
      refine (HPl.out _).mono ?_
      rintro e w2 ⟨⟨z, rfl, hz⟩, k2⟩
      have hbx := (Box.made wr 71 #[.int .i64 (mk : Int), .string S1, .string S2]).below k2 (by simp)
      have hbw2 : Below w.heap.size w w2 := below_next (below_new hb _) k2
      have c0 : w2.cell? ⟨wr.heap.size, 0, none⟩ = some (.int .i64 (mk : Int)) := hbx.cell 0
      have c2 : w2.cell? ⟨wr.heap.size, 2, none⟩ = some (.string S2) := hbx.cell 2
      have hlt2 : wr.heap.size < w2.heap.size := hbx.lt
      rcases hz with ⟨rfl, hno⟩ | ⟨k, rfl, hf⟩
      · have HF2 : Hid (((rowL.take (i + 1)).flatMap zrow).find? (fun x => Nat.beq x.1 c) = none) := Lib.hid (by
          rw [HNext.out, List.find?_append, HF.out, zrow_none hno]
          rfl)
        clear hno k2
        go_wp2
        go_roundw
        case rel => exact ⟨i + 1, by omega, by go_num, HF2, hbw2⟩
        case measure => simp [intOf]; omega
      · obtain ⟨y, hy⟩ := get_some (l := bs) (i := k) (by have := get_lt hf.1; have := HL.out; omega)
        have hsp := HSplit.out _ _ HF.out (zrow_first hf hy)
        have HE1 : Hid (R = (y, mk)) := Lib.hid (by rw [← HR.out, pairR_some hsp])
        have HE2 : Hid (B = true) := Lib.hid (by
          rw [← HB.out, List.any_eq_true]
          exact ⟨_, List.mem_of_find?_eq_some hsp, beq_true c⟩)
        have t2 : decide ((0 : Int) ≤ (k : Int)) = true := by simp
        have HA := Lib.hid (fun W => HAt.out k y W hy)
        clear hf hy hsp k2
        go_wp2_with fail
        go_region_with (first | (go_at_call 64; refine (HA.out _).mono ?_; rintro e w3 ⟨rfl, k3⟩; have k4 : Below w2.heap.size w2 w3 := ((Below.refl w2.heap.size w2).drew).trans k3; have hbw3 := below_next hbw2 k4; have c0' := (k4.cell (p := ⟨wr.heap.size, 0, none⟩) hlt2).trans c0))
        all_goals
          go_wp2
          go_ret3
          rw [HE1.out, HE2.out]
          exact ⟨rfl, by first | exact hbw3 | exact below_drewN hbw3 _⟩
    · obtain rfl : i = 13 := by omega
      have hn := HF.out
      rw [rows_all] at hn
      have HE1 : Hid (R = (0, 0)) := Lib.hid (by rw [← HR.out, pairR_none hn])
      have HE2 : Hid (B = false) := Lib.hid (by
        rw [← HB.out, List.any_eq_false]
        exact List.find?_eq_none.1 hn)
      clear hn
      go_wp2
      go_ret3
      rw [HE1.out, HE2.out]
      exact ⟨rfl, hb⟩

end Go.Proofs.YtpgaebdaakllaaaDoor

namespace Go.Proofs.YtpgaebdaakllaaaDoor
open Go.RowKit

set_option maxRecDepth 100000 in
set_option maxHeartbeats 6400000 in
theorem prJoin_any (b m : Nat) (w : World) (hb : b < 2048) :
    Calls Tryd.prog 47 #[.int .i64 (b : Int), .int .i64 (m : Int)] w fun e w' => e = .returned (.tuple #[.int .i64 (compR b m : Int), .bool (pairL.any fun x => Nat.beq x.2.1 b && Nat.beq x.2.2 m)]) ∧ Below w.heap.size w w' := by
  obtain ⟨R, hR⟩ : ∃ R, compR b m = R := ⟨_, rfl⟩
  obtain ⟨B, hB⟩ : ∃ B, (pairL.any fun x => Nat.beq x.2.1 b && Nat.beq x.2.2 m) = B := ⟨_, rfl⟩
  rw [hR, hB]
  have HR := Lib.hid hR
  have HB := Lib.hid hB
  clear hR hB
  have HRo := Lib.hid (prRows_any w)
  go_enter Tryd.func47, Tryd.ntmps47
  go_wp2_with fail
  refine HRo.out.mono ?_
  rintro e w1 ⟨rfl, hk1⟩
  go_wp2
  go_loopw [7, 8, 10] (fun _ _ s wr => ∃ i : Nat, i ≤ 13 ∧ s = .int .i64 (i : Int) ∧ Hid (((rowL.take i).flatMap zrow).find? (fun x => Nat.beq x.2.1 b && Nat.beq x.2.2 m) = none) ∧ Below w.heap.size w wr) (fun _ _ s _ => 13 - (intOf s).toNat)
  case atStart => exact ⟨0, by omega, rfl, Lib.hid rfl, hk1⟩
  case round =>
    obtain ⟨i, hi, rfl, HF, hbw⟩ := hrel
    by_cases hlt : i < 13
    · have t1 : decide ((i : Int) < 13) = true := by simp; omega
      have iz : (i : Int) < 13 := by omega
      obtain ⟨hok1, hok2, hl12, hl100⟩ := row_facts hlt
      obtain ⟨_, hs2, hf2⟩ := row_small hlt
      have hix := row_index i hlt
      unfold rowTri at hix
      have HNext := Lib.hid (rows_next hlt)
      have HSplit := Lib.hid (fun (p : Nat × Nat × Nat → Bool) (x : Nat × Nat × Nat) h h2 => find_split (p := p) hlt h (x := x) h2)
      obtain ⟨r, hr⟩ : ∃ r, rowAt i = r := ⟨_, rfl⟩
      rw [hr] at hok1 hok2 hl12 hl100 hs2 hf2 hix HNext HSplit
      clear hr
      obtain ⟨mk, ls, bs⟩ := r
      simp only at hok1 hok2 hl12 hl100 hs2 hf2 hix
      have HPl := Lib.hid fun W => prPlace_any bs b W hok2 hs2 hb (by have := enc_short (l := bs) (by omega); omega) hf2
      have HAt := Lib.hid fun (k x : Nat) W (h : ls[k]? = some x) => prAt_any ls k x W hok1 h (by omega)
      have HL := Lib.hid hl12
      obtain ⟨S1, hS1⟩ : ∃ S, str (encL ls) = S := ⟨_, rfl⟩
      obtain ⟨S2, hS2⟩ : ∃ S, str (encL bs) = S := ⟨_, rfl⟩
      rw [hS2] at HPl hix
      rw [hS1] at HAt hix
      clear hok1 hok2 hl12 hl100 hs2 hf2 hS1 hS2
      by_cases hmk : mk = m
      · subst hmk
        have t3 : ((mk : Int) != (mk : Int)) = false := by simp
        go_wp2_with fail
        refine (HPl.out _).mono ?_
        rintro e w2 ⟨⟨z, rfl, hz⟩, k2⟩
        have hbx := (Box.made wr 71 #[.int .i64 (mk : Int), .string S1, .string S2]).below k2 (by simp)
        have hbw2 : Below w.heap.size w w2 := below_next (below_new hbw _) k2
        have c1 : w2.cell? ⟨wr.heap.size, 1, none⟩ = some (.string S1) := hbx.cell 1
        rcases hz with ⟨rfl, hno⟩ | ⟨k, rfl, hf⟩
        · have HF2 : Hid (((rowL.take (i + 1)).flatMap zrow).find? (fun x => Nat.beq x.2.1 b && Nat.beq x.2.2 mk) = none) := Lib.hid (by
            rw [HNext.out, List.find?_append, HF.out, zrow_none2 hno]
            rfl)
          clear hno k2
          go_wp2
          go_roundw
          case rel => exact ⟨i + 1, by omega, by go_num, HF2, hbw2⟩
          case measure => simp [intOf]; omega
        · obtain ⟨y, hy⟩ := get_some (l := ls) (i := k) (by have := get_lt hf.1; have := HL.out; omega)
          have hsp := HSplit.out _ _ HF.out (zrow_first2 hf hy)
          have HE1 : Hid (R = y) := Lib.hid (by rw [← HR.out, compR_some hsp])
          have HE2 : Hid (B = true) := Lib.hid (by
            rw [← HB.out, List.any_eq_true]
            exact ⟨_, List.mem_of_find?_eq_some hsp, by simp only; rw [beq_true, beq_true]; rfl⟩)
          have t2 : decide ((0 : Int) ≤ (k : Int)) = true := by simp
          have HA := Lib.hid (fun W => HAt.out k y W hy)
          clear hf hy hsp k2
          go_wp2_with fail
          refine (HA.out _).mono ?_
          rintro e w3 ⟨rfl, k3⟩
          go_wp2
          go_ret2
          rw [HE1.out, HE2.out]
          exact ⟨rfl, below_next hbw2 k3⟩
      · have t3 : ((mk : Int) != (m : Int)) = true := by simp; omega
        have HF2 : Hid (((rowL.take (i + 1)).flatMap zrow).find? (fun x => Nat.beq x.2.1 b && Nat.beq x.2.2 m) = none) := Lib.hid (by
          rw [HNext.out, List.find?_append, HF.out, zrow_other (r := (mk, ls, bs)) b hmk]
          rfl)
        go_wp2
        go_roundw
        case rel => exact ⟨i + 1, by omega, by go_num, HF2, below_new hbw _⟩
        case measure => simp [intOf]; omega
    · obtain rfl : i = 13 := by omega
      have hn := HF.out
      rw [rows_all] at hn
      have HE1 : Hid (R = 0) := Lib.hid (by rw [← HR.out, compR_none hn])
      have HE2 : Hid (B = false) := Lib.hid (by
        rw [← HB.out, List.any_eq_false]
        exact List.find?_eq_none.1 hn)
      clear hn
      go_wp2
      go_ret2
      rw [HE1.out, HE2.out]
      exact ⟨rfl, hbw⟩

end Go.Proofs.YtpgaebdaakllaaaDoor
