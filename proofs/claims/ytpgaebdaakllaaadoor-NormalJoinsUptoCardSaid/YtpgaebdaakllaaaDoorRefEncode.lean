/-
  The reference's Encode.
-/
import Derived.Test.YtpgaebdaakllaaaDoorRefBytes
namespace Go.Proofs.YtpgaebdaakllaaaDoor
open Go.RowKit

theorem memB_range {l : List Nat} {c : Int} (hl : ∀ x ∈ l, x < 65536) (h : memB l c = true) : 0 ≤ c ∧ c < 65536 := by
  unfold memB at h
  obtain ⟨d, hd, h⟩ := List.any_eq_true.1 h
  have := hl d hd
  have h2 : (d : Int) = c := by simpa using h
  omega
theorem inB_range {c lo hi : Int} (h : inB c lo hi = true) : lo ≤ c ∧ c ≤ hi := by unfold inB at h; simpa using h
theorem clsN_range {c : Int} (h : (clsN c).2 ≠ 0) : 0 ≤ c ∧ c < 65536 := by
  unfold clsN at h
  split at h
  · rename_i h1; simp at h1; omega
  split at h
  · rename_i h1
    simp only [Bool.or_eq_true, beq_iff_eq] at h1
    rcases h1 with ((h1 | h1) | h1) | h1
    · have := inB_range h1; omega
    all_goals omega
  split at h
  · rename_i h1
    simp only [Bool.or_eq_true, beq_iff_eq] at h1
    rcases h1 with ((((h1 | h1) | h1) | h1) | h1) | h1
    · have := inB_range h1; omega
    · have := inB_range h1; omega
    · omega
    · omega
    · omega
    · exact memB_range latin_small h1
  split at h
  · rename_i h1
    simp only [Bool.or_eq_true, beq_iff_eq] at h1
    rcases h1 with ((((h1 | h1) | h1) | h1) | h1) | h1
    · have := inB_range h1; omega
    · have := inB_range h1; omega
    · have := inB_range h1; omega
    all_goals omega
  split at h
  · rename_i h1
    simp only [Bool.or_eq_true] at h1
    rcases h1 with ((h1 | h1) | h1) | h1
    · have := inB_range h1; omega
    · have := inB_range h1; omega
    · have := inB_range h1; omega
    · exact memB_range greek_small h1
  split at h
  · rename_i h1
    simp only [Bool.or_eq_true] at h1
    rcases h1 with h1 | h1
    · have := inB_range h1; omega
    · exact memB_range cyr_small h1
  split at h
  · rename_i h1
    have := inB_range h1
    omega
  · exact absurd rfl h
theorem has_range {c : Int} (h : hasR c = true) : 0 ≤ c ∧ c < 65536 := by
  unfold hasR kindR clsR at h
  split at h
  · rename_i h1
    have := inB_range h1
    omega
  · exact clsN_range (by simpa using h)

/-- The encoding of a list of numbers. -/
def encI (xs : List Int) : List UInt8 := encL (xs.map Int.toNat)
def encR (xs : List Int) : Option (List UInt8) := if xs.all hasR = true then some (encI xs) else none
def EncEnd (r : Option (List UInt8)) (e : Ending) : Prop :=
  match r with
  | some b => e = .returned (.tuple #[.string (str b), .bool true])
  | none => e = .returned (.tuple #[.string (str []), .bool false])
theorem encI_snoc (xs : List Int) (x : Int) : encI (xs ++ [x]) = encI xs ++ encC x.toNat := by
  unfold encI
  rw [List.map_append, encL_app, List.map_singleton, encL, encL, List.append_nil]
theorem encL_len (l : List Nat) : (encL l).length ≤ 3 * l.length := by
  induction l with
  | nil => simp [encL]
  | cons x l ih =>
    have := encC_len x
    rw [encL, List.length_append, List.length_cons]
    omega
theorem encI_len (xs : List Int) : (encI xs).length ≤ 3 * xs.length := by
  unfold encI
  have := encL_len (xs.map Int.toNat)
  rwa [List.length_map] at this
theorem encR_bad {xs : List Int} {k : Nat} {x : Int} (h : xs[k]? = some x) (hx : hasR x = false) : encR xs = none := by
  unfold encR
  refine if_neg fun h2 => ?_
  have := List.all_eq_true.1 h2 x (List.mem_of_getElem? h)
  rw [hx] at this
  cases this
theorem encR_good {xs : List Int} (h : xs.all hasR = true) : encR xs = some (encI xs) := if_pos h
theorem all_take {xs : List Int} {k : Nat} {x : Int} (h : xs[k]? = some x) (h1 : (xs.take k).all hasR = true) (hx : hasR x = true) : (xs.take (k + 1)).all hasR = true := by
  rw [take_next h, List.all_append, h1]
  simp [hx]

theorem add_str {P : Program} {w : World} (a b : List UInt8) (h : a.length + b.length ≤ 9223372036854775807) : (Op.stringOp .add (str a) (str b)).run P w = .ok (.string (str (a ++ b))) w := by
  rw [run_string_add_sum w (str a) (str b) h, str_append]

set_option maxRecDepth 20000 in
set_option maxHeartbeats 1600000 in
theorem refEncode_any (A : Option Addr) (n c : Nat) (xs : List Int) (w : World) (h : Arr iv w w.heap.size (.slice A n c) xs) (hn : n ≤ 1000000000000000000) :
    Calls Tryd.prog 24 #[.slice A n c] w fun e w' => EncEnd (encR xs) e ∧ Below w.heap.size w w' := by
  have HL := Lib.hid h.len
  obtain ⟨R, hR⟩ : ∃ R, R = encR xs := ⟨_, rfl⟩
  rw [← hR]
  have HR := Lib.hid hR
  clear hR
  go_enter Tryd.func24, Tryd.ntmps24
  go_wp2
  go_loopw [4, 5] (fun v i wr => ∃ (k : Nat) (b : List UInt8), k ≤ n ∧ i = .int .i64 (k : Int) ∧ v = .string (str b) ∧ Hid (b = encI (xs.take k)) ∧ Hid ((xs.take k).all hasR = true) ∧ Below w.heap.size w wr) (fun _ i _ => n - (intOf i).toNat)
  case atStart => exact ⟨0, [], by omega, rfl, rfl, Lib.hid rfl, Lib.hid rfl, Below.refl _ _⟩
  case round =>
    obtain ⟨k, b, hk, rfl, rfl, HB, HA, hbel⟩ := hrel
    by_cases hlt : k < n
    · have i1 : decide ((k : Int) < (n : Int)) = true := by simp; omega
      obtain ⟨b0, o0, rfl, hB0, hc0⟩ := h.some_ (by omega)
      obtain ⟨x, hx⟩ : ∃ a, xs[k]? = some a := ⟨_, List.getElem?_eq_getElem (by have := HL.out; omega)⟩
      have d0 := (hbel.cell (p := ⟨b0, o0 + k, none⟩) hB0).trans (hc0 k x hx)
      simp only [iv] at d0
      have HH := Lib.hid (has_any x)
      cases hc : hasR x with
      | false =>
        have HE : Hid (R = none) := Lib.hid (by rw [HR.out, encR_bad hx hc])
        rw [hc] at HH
        clear hc0 hx hc
        go_wp2_with fail
        refine (HH.out _).mono ?_
        rintro e w1 ⟨rfl, q, rfl⟩
        go_wp2
        go_ret2
        rw [HE.out]
        exact ⟨rfl, below_drewN hbel q⟩
      | true =>
        have hr := has_range hc
        obtain ⟨y, rfl⟩ : ∃ y : Nat, x = (y : Int) := ⟨x.toNat, by omega⟩
        have hy : y < 65536 := by omega
        have HB2 : Hid (b ++ encC y = encI (xs.take (k + 1))) := Lib.hid (by rw [take_next hx, encI_snoc, HB.out]; rfl)
        have HA2 := Lib.hid (all_take hx HA.out hc)
        have hbl : b.length ≤ 3 * n := by
          have h1 := encI_len (xs.take k)
          rw [← HB.out, List.length_take] at h1
          omega
        have hcl := encC_len y
        rw [hc] at HH
        clear hc0 hx hc
        go_wp2_with fail
        refine (HH.out _).mono ?_
        rintro e w1 ⟨rfl, q, rfl⟩
        go_wp2_with fail
        refine (refBytes_any y _ hy).mono ?_
        rintro e w2 ⟨rfl, hb2⟩
        have hadd := add_str (P := Tryd.prog) (w := w2) b (encC y) (by omega)
        go_wp2
        go_roundw
        case rel => exact ⟨k + 1, b ++ encC y, by omega, by go_num, rfl, HB2, HA2, (below_drewN hbel q).trans (hb2.mono hbel.size)⟩
        case measure => simp [intOf]; omega
    · obtain rfl : k = n := by omega
      have hall : xs.all hasR = true := by have := HA.out; rwa [List.take_of_length_le (by have := HL.out; omega)] at this
      have hbe : b = encI xs := by have := HB.out; rwa [List.take_of_length_le (by have := HL.out; omega)] at this
      have HE : Hid (R = some b) := Lib.hid (by rw [HR.out, encR_good hall, hbe])
      clear hall hbe
      go_wp2
      go_ret2
      rw [HE.out]
      exact ⟨rfl, hbel⟩

end Go.Proofs.YtpgaebdaakllaaaDoor
