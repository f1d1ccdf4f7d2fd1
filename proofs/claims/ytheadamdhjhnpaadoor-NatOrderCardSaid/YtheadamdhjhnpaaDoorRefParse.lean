/-
  The reference's Parse.
-/
import Derived.Test.YtheadamdhjhnpaaDoorRefShift
namespace Go.Proofs.YtheadamdhjhnpaaDoor
open Go.RowKit

theorem snoc_list {α : Type} {P : List α → Prop} (h0 : P []) (hs : ∀ l c, P l → P (l ++ [c])) (l : List α) : P l := by
  rw [← List.reverse_reverse l]
  induction l.reverse with
  | nil => exact h0
  | cons c t ih => rw [List.reverse_cons]; exact hs _ _ ih

def isDec (c : UInt8) : Bool := decide (48 ≤ c.toNat) && decide (c.toNat ≤ 57)
def decV (s : List UInt8) : Nat := s.foldl (fun n c => 10 * n + (c.toNat - 48)) 0
def formB (s : List UInt8) : Bool := decide (1 ≤ s.length) && decide (s.length ≤ 700) && (decide (s.length = 1) || decide (s[0]? ≠ some 48))
def parseR (s : List UInt8) : Except Nat Nat := if formB s = true ∧ s.all isDec = true then limit (decV s) else .error 7

theorem decV_snoc (s : List UInt8) (c : UInt8) : decV (s ++ [c]) = 10 * decV s + (c.toNat - 48) := by unfold decV; rw [List.foldl_append]; rfl
theorem decV_nil : decV [] = 0 := rfl
theorem all_dec_take {s : List UInt8} {k : Nat} {c : UInt8} (h : s[k]? = some c) : (s.take (k + 1)).all isDec = ((s.take k).all isDec && isDec c) := by rw [take_next h, List.all_append]; simp
theorem all_dec_bad {s : List UInt8} {k : Nat} {c : UInt8} (h : s[k]? = some c) (hc : isDec c = false) : s.all isDec = false := by
  rw [List.all_eq_false]
  exact ⟨c, List.mem_of_getElem? h, by simp [hc]⟩
def pt (k : Nat) : Nat := 10 ^ k
theorem pt_mono {a b : Nat} (h : a ≤ b) : pt a ≤ pt b := Nat.pow_le_pow_right (by omega) h
theorem pt_pw (k : Nat) : pt (4 * k) ≤ pw k := by
  unfold pt pw
  rw [Nat.pow_mul]
  exact Nat.pow_le_pow_left (by omega) _
theorem decV_lt (s : List UInt8) : s.all isDec = true → decV s < pt s.length := by
  refine snoc_list (P := fun s => s.all isDec = true → decV s < pt s.length) ?_ ?_ s
  · intro _; rw [decV_nil]; decide
  · intro s c ih h
    rw [List.all_append, Bool.and_eq_true] at h
    have h1 := ih h.1
    have h2 := h.2
    simp [isDec] at h2
    unfold pt at *
    rw [decV_snoc, List.length_append, List.length_singleton, Nat.pow_succ]
    omega
theorem decV_sn {s : List UInt8} {k : Nat} (h : (s.take k).all isDec = true) (hk : k ≤ 701) : Sn (decV (s.take k)) := by
  have h1 : decV (s.take k) < pt (s.take k).length := decV_lt _ h
  exact Nat.lt_of_lt_of_le h1 (Nat.le_trans (pt_mono (by rw [List.length_take]; omega)) (pt_pw 200))

theorem times_box (W : World) (v : Value) (g a S : Nat) (w : World) (hA : Num W v a) (hk : Below W.heap.size W w) (hb : Box w g 3 #[.int .i64 (S : Int)]) (ha : Sm a) (h0 : S ≠ 0) (h1 : S < 65536) :
    Calls Tryd.prog 56 #[v, .slice (some ⟨g, 0, none⟩) 1 1] w fun e w' => ∃ r, e = .returned r ∧ Num w' r (a * S) ∧ Below W.heap.size W w' ∧ Below w.heap.size w w' :=
  times_num W _ _ a S w hk (hA.up hk) (Num.box hb h0 h1) ha (Nat.lt_of_lt_of_le (by unfold pw; omega : S < pw 1) (pw_mono (by omega)))
theorem times_ten (W : World) (v : Value) (g a : Nat) (w : World) (hA : Num W v a) (hk : Below W.heap.size W w) (hb : Box w g 3 #[.int .i64 10]) (ha : Sm a) :
    Calls Tryd.prog 56 #[v, .slice (some ⟨g, 0, none⟩) 1 1] w fun e w' => ∃ r, e = .returned r ∧ Num w' r (a * 10) ∧ Below W.heap.size W w' ∧ Below w.heap.size w w' :=
  times_box W v g a 10 w hA hk hb ha (by decide) (by decide)
theorem hby_a {w w2 : World} {o : Obj} {t : TypeId} {cs : Array Value} (k3 : Below ((w.alloc o).alloc (.cells cs t)).drew.heap.size ((w.alloc o).alloc (.cells cs t)).drew w2) : Box w2 (w.heap.size + 1) t cs :=
  (box_second w t cs _).below k3 (le_two2 w _ _)
theorem hby_b {w w2 : World} {o : Obj} {t : TypeId} {cs : Array Value} (k3 : Below ((w.alloc (.cells cs t)).alloc o).drew.heap.size ((w.alloc (.cells cs t)).alloc o).drew w2) : Box w2 w.heap.size t cs :=
  (box_first w t cs _).below k3 (le_two w _ _)
theorem wraps_u8 (n : Int) (h0 : 0 ≤ n) (h1 : n < 256) : IntKind.u8.wrap n = n := by rw [IntKind.wrap_u8]; omega
theorem tr_one (d : Nat) (h : d < 65536) : tr [d] = dg d := by
  rw [tr_eq [d] (by intro x hx; simp at hx; omega)]
  simp [vl]
theorem trim_box (W : World) (g d : Nat) (w : World) (hk : Below W.heap.size W w) (hb : Box w g 3 #[.int .i64 (d : Int)]) (h1 : d < 65536) :
    Calls Tryd.prog 63 #[.slice (some ⟨g, 0, none⟩) 1 1] w fun e w' => ∃ r, e = .returned r ∧ Num w' r d ∧ Below W.heap.size W w' ∧ Below w.heap.size w w' := by
  have hA : Arr nv w w.heap.size (.slice (some ⟨g, 0, none⟩) 1 1) [d] := by
    refine (Arr.of_box (n := 1) (c := 1) (xs := [d]) hb rfl (Nat.le_refl _) ?_).more hb.lt
    intro i u hu
    cases i with
    | zero => simp at hu; subst hu; rfl
    | succ i => simp at hu
  refine (trim_at w _ 1 1 _ _ w (Below.refl _ _) hA (tr_one d h1) (by omega)).mono ?_
  intro e w' h
  obtain ⟨r, e1, e2, e3⟩ := Num.of_new h
  exact ⟨r, e1, e2, below_next hk e3, e3⟩

theorem parse_form {s : List UInt8} (h : formB s = false) : parseR s = .error 7 := by
  unfold parseR
  exact if_neg (by rw [h]; simp)
theorem parse_digit {s : List UInt8} (h : s.all isDec = false) : parseR s = .error 7 := by
  unfold parseR
  exact if_neg (by rw [h]; simp)
theorem parse_good {s : List UInt8} (h : formB s = true) (h2 : s.all isDec = true) : limit (decV s) = parseR s := by
  unfold parseR
  exact (if_pos ⟨h, h2⟩).symm

set_option maxRecDepth 20000 in
set_option maxHeartbeats 1600000 in
theorem refParse_any (s : List UInt8) (w : World) (hlen : s.length ≤ 1000000000000) :
    Calls Tryd.prog 43 #[.string (str s)] w fun e w' => ResEnd (parseR s) e w' ∧ Below w.heap.size w w' := by
  have hsz : (str s).size = s.length := rfl
  by_cases h0 : s.length = 0
  · have t0 : decide ((s.length : Int) < 1) = true := by simp; omega
    have HE := Lib.hid (parse_form (s := s) (by unfold formB; rw [h0]; rfl))
    clear h0
    go_enter Tryd.func43, Tryd.ntmps43
    go_wp2
    go_ret2
    rw [HE.out]
    exact ⟨ResEnd.err 7, Below.refl _ _⟩
  have t0 : decide ((s.length : Int) < 1) = false := by simp; omega
  by_cases h7 : 700 < s.length
  · have t1 : decide (700 < (s.length : Int)) = true := by simp; omega
    have HE := Lib.hid (parse_form (s := s) (by unfold formB; rw [decide_eq_false (show ¬ s.length ≤ 700 by omega)]; simp))
    clear h0 h7
    go_enter Tryd.func43, Tryd.ntmps43
    go_wp2
    go_ret2
    rw [HE.out]
    exact ⟨ResEnd.err 7, Below.refl _ _⟩
  have t1 : decide (700 < (s.length : Int)) = false := by simp; omega
  have hp : 0 < s.length := by omega
  have hp2 : 0 < (str s).size := hp
  have hat := str_at s 0 hp2
  have hcase : (s.length = 1 ∧ Hid (formB s = true)) ∨ (1 < s.length ∧ (str s)[0].toNat ≠ 48 ∧ Hid (formB s = true)) ∨ (1 < s.length ∧ (str s)[0].toNat = 48 ∧ Hid (parseR s = .error 7)) := by
    by_cases h1 : s.length = 1
    · exact .inl ⟨h1, Lib.hid (by unfold formB; rw [h1]; rfl)⟩
    · have h48 : s[0]? = some 48 ↔ (str s)[0].toNat = 48 := by
        rw [hat]
        constructor
        · intro h; simp at h; rw [h]; rfl
        · intro h
          have : (str s)[0] = 48 := UInt8.toNat_inj.1 h
          rw [this]
      by_cases h2 : (str s)[0].toNat = 48
      · refine .inr (.inr ⟨by omega, h2, Lib.hid (parse_form ?_)⟩)
        unfold formB
        rw [h48.2 h2, decide_eq_false h1]
        simp
      · refine .inr (.inl ⟨by omega, h2, Lib.hid ?_⟩)
        unfold formB
        rw [decide_eq_true (show 1 ≤ s.length by omega), decide_eq_true (show s.length ≤ 700 by omega), decide_eq_true (show s[0]? ≠ some 48 from fun h => h2 (h48.1 h))]
        simp
  clear hat
  rcases hcase with ⟨h1, HF⟩ | ⟨h1, h2, HF⟩ | ⟨h1, h2, HE⟩
  case inr.inr =>
    have t2 : decide (1 < (s.length : Int)) = true := by simp; omega
    have t3 : (((str s)[0].toNat : Int) == 48) = true := by rw [h2]; rfl
    go_enter Tryd.func43, Tryd.ntmps43
    go_wp2
    go_ret2
    rw [HE.out]
    exact ⟨ResEnd.err 7, Below.refl _ _⟩
  case' inl =>
    have t2 : decide (1 < (s.length : Int)) = false := by simp; omega
    go_enter Tryd.func43, Tryd.ntmps43
    go_wp2
  case' inr.inl =>
    have t2 : decide (1 < (s.length : Int)) = true := by simp; omega
    have t3 : (((str s)[0].toNat : Int) == 48) = false := beq_false_of_ne (by omega)
    go_enter Tryd.func43, Tryd.ntmps43
    go_wp2
  all_goals
    go_loop [4] (fun i => ∃ k : Nat, k ≤ s.length ∧ i = .int .i64 (k : Int) ∧ Hid ((s.take k).all isDec = true)) (fun i => s.length - (intOf i).toNat)
    case atStart => exact ⟨0, by omega, rfl, Lib.hid rfl⟩
    case round =>
      obtain ⟨k, hk, rfl, HA⟩ := hrel
      by_cases hlt : k < s.length
      · have hkl : k < (str s).size := hlt
        have hat := str_at s k hkl
        have i1 : (k : Int) < (s.length : Int) := by omega
        by_cases hlo : (str s)[k].toNat < 48
        · have u1 : decide ((str s)[k].toNat < 48) = true := by simp; omega
          have u2 : decide (((str s)[k].toNat : Int) < 48) = true := by simp; omega
          have HE := Lib.hid (parse_digit (all_dec_bad hat (by unfold isDec; simp; omega)))
          clear hat
          go_wp2
          go_ret2
          rw [HE.out]
          exact ⟨ResEnd.err 7, Below.refl _ _⟩
        · have u1 : decide (((str s)[k].toNat : Int) < 48) = false := by simp; omega
          by_cases hhi : 57 < (str s)[k].toNat
          · have u2 : decide (57 < ((str s)[k].toNat : Int)) = true := by simp; omega
            have HE := Lib.hid (parse_digit (all_dec_bad hat (by unfold isDec; simp; omega)))
            clear hat
            go_wp2
            go_ret2
            rw [HE.out]
            exact ⟨ResEnd.err 7, Below.refl _ _⟩
          · have u2 : decide (57 < ((str s)[k].toNat : Int)) = false := by simp; omega
            have HA2 : Hid ((s.take (k + 1)).all isDec = true) := Lib.hid (by rw [all_dec_take hat, HA.out]; unfold isDec; simp; omega)
            clear hat
            go_wp2
            go_round
            case rel => exact ⟨k + 1, by omega, by go_num, HA2⟩
            case measure => simp [intOf]; omega
      · obtain rfl : k = s.length := by omega
        have hall : s.all isDec = true := by have := HA.out; rwa [List.take_of_length_le (Nat.le_refl _)] at this
        have HG := Lib.hid (parse_good HF.out hall)
        have HALL := Lib.hid hall
        clear hall
        have HL700 : Hid (s.length ≤ 700) := Lib.hid (by omega)
        go_wp2
        go_loopw [5, 6] (fun out i wr => ∃ k m : Nat, k ≤ s.length ∧ i = .int .i64 (k : Int) ∧ Hid (m = decV (s.take k)) ∧ Num wr out m ∧ Below w.heap.size w wr) (fun _ i _ => s.length - (intOf i).toNat)
        case atStart => exact ⟨0, 0, by omega, rfl, Lib.hid rfl, Num.zero _, Below.refl _ _⟩
        case round =>
          obtain ⟨k, m, hk, rfl, HM, hnum, hbel⟩ := hrel
          by_cases hlt : k < s.length
          · have hkl : k < (str s).size := hlt
            have hat := str_at s k hkl
            have i1 : (k : Int) < (s.length : Int) := by omega
            have hc : isDec ((str s)[k]) = true := List.all_eq_true.1 HALL.out _ (List.mem_of_getElem? hat)
            have hc1 : 48 ≤ (str s)[k].toNat ∧ (str s)[k].toNat ≤ 57 := by simp [isDec] at hc; exact hc
            obtain ⟨D, hD⟩ : ∃ D, D = (str s)[k].toNat - 48 := ⟨_, rfl⟩
            have hD9 : D < 65536 := by omega
            have e1 : IntKind.u8.wrap (((str s)[k].toNat : Int) - 48) = (D : Int) := by rw [show ((str s)[k].toNat : Int) - 48 = (D : Int) from by omega]; exact wraps_u8 _ (by omega) (by omega)
            have e2 : IntKind.i64.wrap (D : Int) = (D : Int) := wraps_i64 _ (by omega) (by omega)
            have hnext : decV (s.take (k + 1)) = m * 10 + D := by rw [take_next hat, decV_snoc, ← HM.out, hD]; omega
            have hall1 : (s.take (k + 1)).all isDec = true := List.all_eq_true.2 fun x hx => List.all_eq_true.1 HALL.out x (List.mem_of_mem_take hx)
            have hsn := decV_sn hall1 (by have := HL700.out; omega)
            rw [hnext] at hsn
            have S0 := Lib.hid (hsn.sm.less (m := m) (by omega))
            have S1 := Lib.hid (hsn.sm.less (m := m * 10) (by omega))
            have S2 := Lib.hid (hsn.sm.less (m := D) (by omega))
            have HN : Hid (m * 10 + D = decV (s.take (k + 1))) := Lib.hid hnext.symm
            clear hat hc hc1 hD hnext hall1 hsn
            go_wp2_with fail
            go_region_held3 (fun _ => True) (trivial)
              (first
                | (go_at_call 56; (with_reducible refine (times_ten wr _ wr.heap.size m _ hnum (below_two _ _ _) (box_first _ _ _ _) S0.out).mono ?_); rintro e w2 ⟨r, rfl, hr, k2, k3⟩; have hbA := hby_a k3)
                | (go_at_call 56; (with_reducible refine (times_ten wr _ (wr.heap.size + 1) m _ hnum (below_two _ _ _) (box_second _ _ _ _) S0.out).mono ?_); rintro e w2 ⟨r, rfl, hr, k2, k3⟩; have hbB := hby_b k3)
                | (go_at_call 56; (with_reducible refine (times_ten wr _ wr.heap.size m _ hnum (below_one _ _) (box_one _ _ _) S0.out).mono ?_); rintro e w2 ⟨r, rfl, hr, k2, k3⟩)
                | (go_at_call 63; have hq := hbA; (with_reducible refine (trim_box wr (wr.heap.size + 1) D w2 k2 hq hD9).mono ?_); rintro e w4 ⟨r4, rfl, hr4, k4, k5⟩; have hs := hr.up k5)
                | (go_at_call 63; have hq := hbB; (with_reducible refine (trim_box wr wr.heap.size D w2 k2 hq hD9).mono ?_); rintro e w4 ⟨r4, rfl, hr4, k4, k5⟩; have hs := hr.up k5)
                | (go_at_call 63; (with_reducible refine (trim_box wr w2.heap.size D _ (below_new k2 _) (Box.made _ _ _) hD9).mono ?_); rintro e w4 ⟨r4, rfl, hr4, k4, k5⟩; have hs := (hr.up ((Below.refl _ _).alloc (Nat.le_refl _) _)).up k5)
                | (go_at_call 52; (with_reducible refine (sum_num wr r r4 (m * 10) D w4 k4 hs hr4 S1.out S2.out).mono ?_); rintro e w5 ⟨r5, rfl, hr5, k6, _⟩))
            all_goals
              go_wp2
              go_roundw
              case rel => exact ⟨k + 1, m * 10 + D, by omega, by go_num, HN, hr5, below_next hbel k6⟩
              case measure => simp [intOf]; omega
          · obtain rfl : k = s.length := by omega
            have hm : m = decV s := by have := HM.out; rwa [List.take_of_length_le (Nat.le_refl _)] at this
            have hall1 : (s.take s.length).all isDec = true := by rw [List.take_of_length_le (Nat.le_refl _)]; exact HALL.out
            have hsn := decV_sn hall1 (by have := HL700.out; omega)
            rw [List.take_of_length_le (Nat.le_refl _), ← hm] at hsn
            have HS := Lib.hid hsn.sm
            have HR : Hid (limit m = parseR s) := Lib.hid (by rw [hm]; exact HG.out)
            clear hm hall1 hsn
            go_wp2_with fail
            refine (limited_num w _ m wr hbel hnum HS.out).mono ?_
            rintro e w3 ⟨⟨A3, c3, rfl, h3⟩, k3⟩
            go_wp2
            go_ret2
            rw [← HR.out]
            exact ⟨⟨A3, c3, rfl, h3⟩, k3⟩

end Go.Proofs.YtheadamdhjhnpaaDoor
