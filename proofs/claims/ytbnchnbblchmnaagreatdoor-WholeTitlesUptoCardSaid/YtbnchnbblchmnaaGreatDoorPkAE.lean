/-
  The reference's Encode.
  The reference's Script.
  The reference's Valid, Cut.
  The characters of a range over a string, and those of the reference.
  Plain data that a listed variable holds: what reads as a datum of numbers, strings, structs and arrays is the datum's values, cell for cell.
-/
import Derived.Test.YtbnchnbblchmnaaGreatDoorPkAD
import Derived.Laws.RangeAny
import Derived.Lib.OthersKept
import Derived.Test.YtbnchnbblchmnaaGreatDoorPkAB
import Derived.Lib.LaidTab
import Derived.LaidLaws
namespace Go.Proofs.YtbnchnbblchmnaaGreatDoor
open Go.RowKit

theorem memB_range {l : List Nat} {c : Int} (hl : ∀ x ∈ l, x < 65536) (h : memB l c = true) : 0 ≤ c ∧ c < 65536 := by
  unfold memB at h
  obtain ⟨d, hd, h⟩ := List.any_eq_true.1 h
  have := hl d hd
  have h2 : (d : Int) = c := by simpa using h
  omega
theorem inB_range {c lo hi : Int} (h : inB c lo hi = true) : lo ≤ c ∧ c ≤ hi := by unfold inB at h; simpa using h
theorem clsN_range {c : Int} (h : (clsN c).2 ≠ 0) : 0 ≤ c ∧ c < 65536 := by
  unfold clsN at h
  split at h
  · rename_i h1; simp at h1; omega
  split at h
  · rename_i h1
    simp only [Bool.or_eq_true, beq_iff_eq] at h1
    rcases h1 with ((h1 | h1) | h1) | h1
    · have := inB_range h1; omega
    all_goals omega
  split at h
  · rename_i h1
    simp only [Bool.or_eq_true, beq_iff_eq] at h1
    rcases h1 with ((((h1 | h1) | h1) | h1) | h1) | h1
    · have := inB_range h1; omega
    · have := inB_range h1; omega
    · omega
    · omega
    · omega
    · exact memB_range latin_small h1
  split at h
  · rename_i h1
    simp only [Bool.or_eq_true, beq_iff_eq] at h1
    rcases h1 with ((((h1 | h1) | h1) | h1) | h1) | h1
    · have := inB_range h1; omega
    · have := inB_range h1; omega
    · have := inB_range h1; omega
    all_goals omega
  split at h
  · rename_i h1
    simp only [Bool.or_eq_true] at h1
    rcases h1 with ((h1 | h1) | h1) | h1
    · have := inB_range h1; omega
    · have := inB_range h1; omega
    · have := inB_range h1; omega
    · exact memB_range greek_small h1
  split at h
  · rename_i h1
    simp only [Bool.or_eq_true] at h1
    rcases h1 with h1 | h1
    · have := inB_range h1; omega
    · exact memB_range cyr_small h1
  split at h
  · rename_i h1
    have := inB_range h1
    omega
  · exact absurd rfl h
theorem has_range {c : Int} (h : hasR c = true) : 0 ≤ c ∧ c < 65536 := by
  unfold hasR kindR clsR at h
  split at h
  · rename_i h1
    have := inB_range h1
    omega
  · exact clsN_range (by simpa using h)

/-- The encoding of a list of numbers. -/
def encI (xs : List Int) : List UInt8 := encL (xs.map Int.toNat)
def encR (xs : List Int) : Option (List UInt8) := if xs.all hasR = true then some (encI xs) else none
def EncEnd (r : Option (List UInt8)) (e : Ending) : Prop :=
  match r with
  | some b => e = .returned (.tuple #[.string (str b), .bool true])
  | none => e = .returned (.tuple #[.string (str []), .bool false])
theorem encI_snoc (xs : List Int) (x : Int) : encI (xs ++ [x]) = encI xs ++ encC x.toNat := by
  unfold encI
  rw [List.map_append, encL_app, List.map_singleton, encL, encL, List.append_nil]
theorem encL_len (l : List Nat) : (encL l).length ≤ 3 * l.length := by
  induction l with
  | nil => simp [encL]
  | cons x l ih =>
    have := encC_len x
    rw [encL, List.length_append, List.length_cons]
    omega
theorem encI_len (xs : List Int) : (encI xs).length ≤ 3 * xs.length := by
  unfold encI
  have := encL_len (xs.map Int.toNat)
  rwa [List.length_map] at this
theorem encR_bad {xs : List Int} {k : Nat} {x : Int} (h : xs[k]? = some x) (hx : hasR x = false) : encR xs = none := by
  unfold encR
  refine if_neg fun h2 => ?_
  have := List.all_eq_true.1 h2 x (List.mem_of_getElem? h)
  rw [hx] at this
  cases this
theorem encR_good {xs : List Int} (h : xs.all hasR = true) : encR xs = some (encI xs) := if_pos h
theorem all_take {xs : List Int} {k : Nat} {x : Int} (h : xs[k]? = some x) (h1 : (xs.take k).all hasR = true) (hx : hasR x = true) : (xs.take (k + 1)).all hasR = true := by
  rw [take_next h, List.all_append, h1]
  simp [hx]

theorem add_str {P : Program} {w : World} (a b : List UInt8) (h : a.length + b.length ≤ 9223372036854775807) : (Op.stringOp .add (str a) (str b)).run P w = .ok (.string (str (a ++ b))) w := by
  rw [run_string_add_sum w (str a) (str b) h, str_append]

set_option maxRecDepth 20000 in
set_option maxHeartbeats 1600000 in
theorem refEncode_any (A : Option Addr) (n c : Nat) (xs : List Int) (w : World) (h : Arr iv w w.heap.size (.slice A n c) xs) (hn : n ≤ 1000000000000000000) :
    Calls Tryz.prog 55 #[.slice A n c] w fun e w' => EncEnd (encR xs) e ∧ Below w.heap.size w w' := by
  have HL := Lib.hid h.len
  obtain ⟨R, hR⟩ : ∃ R, R = encR xs := ⟨_, rfl⟩
  rw [← hR]
  have HR := Lib.hid hR
  clear hR
  go_enter Tryz.func55, Tryz.ntmps55
  go_wp2
  go_loopw [4, 5] (fun v i wr => ∃ (k : Nat) (b : List UInt8), k ≤ n ∧ i = .int .i64 (k : Int) ∧ v = .string (str b) ∧ Hid (b = encI (xs.take k)) ∧ Hid ((xs.take k).all hasR = true) ∧ Below w.heap.size w wr) (fun _ i _ => n - (intOf i).toNat)
  case atStart => exact ⟨0, [], by omega, rfl, rfl, Lib.hid rfl, Lib.hid rfl, Below.refl _ _⟩
  case round =>
    obtain ⟨k, b, hk, rfl, rfl, HB, HA, hbel⟩ := hrel
    by_cases hlt : k < n
    · have i1 : decide ((k : Int) < (n : Int)) = true := by simp; omega
      obtain ⟨b0, o0, rfl, hB0, hc0⟩ := h.some_ (by omega)
      obtain ⟨x, hx⟩ : ∃ a, xs[k]? = some a := ⟨_, List.getElem?_eq_getElem (by have := HL.out; omega)⟩
      have d0 := (hbel.cell (p := ⟨b0, o0 + k, none⟩) hB0).trans (hc0 k x hx)
      simp only [iv] at d0
      have HH := Lib.hid (has_any x)
      cases hc : hasR x with
      | false =>
        have HE : Hid (R = none) := Lib.hid (by rw [HR.out, encR_bad hx hc])
        rw [hc] at HH
        clear hc0 hx hc
        go_wp2_with fail
        refine (HH.out _).mono ?_
        rintro e w1 ⟨rfl, q, rfl⟩
        go_wp2
        go_ret2
        rw [HE.out]
        exact ⟨rfl, below_drewN hbel q⟩
      | true =>
        have hr := has_range hc
        obtain ⟨y, rfl⟩ : ∃ y : Nat, x = (y : Int) := ⟨x.toNat, by omega⟩
        have hy : y < 65536 := by omega
        have HB2 : Hid (b ++ encC y = encI (xs.take (k + 1))) := Lib.hid (by rw [take_next hx, encI_snoc, HB.out]; rfl)
        have HA2 := Lib.hid (all_take hx HA.out hc)
        have hbl : b.length ≤ 3 * n := by
          have h1 := encI_len (xs.take k)
          rw [← HB.out, List.length_take] at h1
          omega
        have hcl := encC_len y
        rw [hc] at HH
        clear hc0 hx hc
        go_wp2_with fail
        refine (HH.out _).mono ?_
        rintro e w1 ⟨rfl, q, rfl⟩
        go_wp2_with fail
        refine (refBytes_any y _ hy).mono ?_
        rintro e w2 ⟨rfl, hb2⟩
        have hadd := add_str (P := Tryz.prog) (w := w2) b (encC y) (by omega)
        go_wp2
        go_roundw
        case rel => exact ⟨k + 1, b ++ encC y, by omega, by go_num, rfl, HB2, HA2, (below_drewN hbel q).trans (hb2.mono hbel.size)⟩
        case measure => simp [intOf]; omega
    · obtain rfl : k = n := by omega
      have hall : xs.all hasR = true := by have := HA.out; rwa [List.take_of_length_le (by have := HL.out; omega)] at this
      have hbe : b = encI xs := by have := HB.out; rwa [List.take_of_length_le (by have := HL.out; omega)] at this
      have HE : Hid (R = some b) := Lib.hid (by rw [HR.out, encR_good hall, hbe])
      clear hall hbe
      go_wp2
      go_ret2
      rw [HE.out]
      exact ⟨rfl, hbel⟩

end Go.Proofs.YtbnchnbblchmnaaGreatDoor

namespace Go.Proofs.YtbnchnbblchmnaaGreatDoor
open Go.RowKit

theorem ok_has {c : Nat} (h : okC c) : hasR (c : Int) = true := has_kind.2 h.2
theorem encR_nats {l : List Nat} (h : ∀ c ∈ l, okC c) : encR (l.map fun d : Nat => (d : Int)) = some (encL l) := by
  rw [encR_good]
  · unfold encI
    rw [List.map_map]
    congr 2
    conv => rhs; rw [← List.map_id l]
    exact List.map_congr_left fun a _ => rfl
  · rw [List.all_eq_true]
    intro x hx
    obtain ⟨c, hc, rfl⟩ := List.mem_map.1 hx
    exact ok_has (h c hc)

/-! Script. -/
def scrF (o : Nat) : List Nat → Nat
  | [] => o
  | c :: l => if (clsR (c : Int)).1 = 0 then scrF o l else if o ≠ 0 ∧ (clsR (c : Int)).1 ≠ o then 4 else scrF (clsR (c : Int)).1 l
def scriptR (s : List UInt8) : Nat := match decR s with | some l => scrF 0 l | none => 0
theorem scr_none {o c : Nat} {l : List Nat} (h : (clsR (c : Int)).1 = 0) : scrF o (c :: l) = scrF o l := by rw [scrF, if_pos h]
theorem scr_mixed {o c : Nat} {l : List Nat} (h : (clsR (c : Int)).1 ≠ 0) (ho : o ≠ 0) (h2 : (clsR (c : Int)).1 ≠ o) : scrF o (c :: l) = 4 := by rw [scrF, if_neg h, if_pos ⟨ho, h2⟩]
theorem scr_next {o c : Nat} {l : List Nat} (h : (clsR (c : Int)).1 ≠ 0) (h2 : o = 0 ∨ (clsR (c : Int)).1 = o) : scrF o (c :: l) = scrF (clsR (c : Int)).1 l := by
  rw [scrF, if_neg h, if_neg]
  rintro ⟨h3, h4⟩
  rcases h2 with h2 | h2
  · exact h3 h2
  · exact h4 h2

end Go.Proofs.YtbnchnbblchmnaaGreatDoor

namespace Go.Proofs.YtbnchnbblchmnaaGreatDoor
open Go.RowKit

def validR (s : List UInt8) : Bool := decide (1 ≤ s.length) && decide (s.length ≤ 400) && decide (s[0]? ≠ some 32) && decide (s[s.length - 1]? ≠ some 32) && (decR s).isSome
theorem at32 {s : List UInt8} {k : Nat} (h : k < (str s).size) : s[k]? = some 32 ↔ (str s)[k].toNat = 32 := by
  rw [str_at s k h]
  constructor
  · intro h; simp at h; rw [h]; rfl
  · intro h
    have : (str s)[k] = 32 := UInt8.toNat_inj.1 h
    rw [this]

def cutR (s : List UInt8) (n : Int) : List UInt8 := if n < 1 then [] else match decR s with | some l => encL (l.take n.toNat) | none => []
theorem cutR_less {s : List UInt8} {n : Int} (h : n < 1) : cutR s n = [] := if_pos h
theorem cutR_none {s : List UInt8} {n : Int} (h : decR s = none) : cutR s n = [] := by unfold cutR; rw [h]; split <;> rfl
theorem cutR_some {s : List UInt8} {l : List Nat} {n : Int} (h : decR s = some l) (hn : ¬ n < 1) : cutR s n = encL (l.take n.toNat) := by unfold cutR; rw [h, if_neg hn]

end Go.Proofs.YtbnchnbblchmnaaGreatDoor

namespace Go.Proofs.YtbnchnbblchmnaaGreatDoor
open Go.RowKit

theorem get_str (s : List UInt8) (j : Nat) : (str s).get! j = s.getD j 0 := by
  show (s.toArray)[j]! = _
  simp [List.getD]
  rfl
/-- The character at the beginning of a list of bytes, as Go reads it, and its width. -/
def runeAt (t : List UInt8) : Nat × Nat := Utf8.decode (str t) 0
theorem decode_drop (s : List UInt8) (k : Nat) : Utf8.decode (str s) k = runeAt (s.drop k) := by
  have hg : ∀ j, (str s).get! (k + j) = (str (s.drop k)).get! (0 + j) := by
    intro j
    rw [get_str, get_str]
    simp [List.getD]
  have hl : ∀ j, (k + j < (str s).size) = (0 + j < (str (s.drop k)).size) := by
    intro j
    show (k + j < s.length) = (0 + j < (s.drop k).length)
    rw [List.length_drop]
    simp
    omega
  unfold runeAt Utf8.decode
  simp only [hg, hl]

theorem rune_ascii {b : UInt8} {t : List UInt8} (h : b.toNat < 128) : runeAt (b :: t) = (b.toNat, 1) := by
  unfold runeAt Utf8.decode
  simp only [get_str]
  simp [h]
def goodU (c : Nat) : Bool := decide (c < 55296) || decide (57344 ≤ c)
theorem rune_two {b c1 : UInt8} {t : List UInt8} (h : ¬ b.toNat < 128) (h2 : is2 b.toNat c1.toNat = true) : runeAt (b :: c1 :: t) = (v2 b.toNat c1.toNat, 2) := by
  obtain ⟨k1, k2, k3⟩ := is2_of h2
  have e1 : b.toNat / 32 = 6 := by omega
  have e2 : b.toNat % 32 * 64 + c1.toNat % 64 = v2 b.toNat c1.toNat := by unfold v2; omega
  have e3 : 128 ≤ v2 b.toNat c1.toNat := by unfold v2; omega
  have e4 : (0 + 1 < (str (b :: c1 :: t)).size) = True := by simp [str_size]
  unfold runeAt Utf8.decode
  simp only [get_str, e4]
  simp [h, e1, k3, e2, e3]
theorem valid_nat {c : Nat} (h : c < 65536) : Utf8.valid (c : Int) = goodU c := by
  unfold Utf8.valid goodU
  rw [Bool.eq_iff_iff]
  simp only [Bool.or_eq_true, Bool.and_eq_true, decide_eq_true_eq]
  omega
theorem rune_three {b c1 c2 : UInt8} {t : List UInt8} (h : ¬ b.toNat < 128) (h3 : is3 b.toNat c1.toNat c2.toNat = true) :
    runeAt (b :: c1 :: c2 :: t) = if goodU (v3 b.toNat c1.toNat c2.toNat) = true then (v3 b.toNat c1.toNat c2.toNat, 3) else (65533, 1) := by
  obtain ⟨k1, k2, k3, k4, k5⟩ := is3_of h3
  have e1 : ¬ b.toNat / 32 = 6 := by omega
  have e1' : b.toNat / 16 = 14 := by omega
  have e2 : b.toNat % 16 * 4096 + c1.toNat % 64 * 64 + c2.toNat % 64 = v3 b.toNat c1.toNat c2.toNat := by unfold v3; omega
  have e4 : (0 + 1 < (str (b :: c1 :: c2 :: t)).size) = True := by simp [str_size]
  have e5 : (0 + 2 < (str (b :: c1 :: c2 :: t)).size) = True := by simp [str_size]
  have e6 : v3 b.toNat c1.toNat c2.toNat < 65536 := by unfold v3; omega
  have e7 := valid_nat e6
  unfold runeAt Utf8.decode
  simp only [get_str, e4, e5]
  have g0 : (b :: c1 :: c2 :: t).getD (0 + 0) 0 = b := rfl
  have g1 : (b :: c1 :: c2 :: t).getD (0 + 1) 0 = c1 := rfl
  have g2 : (b :: c1 :: c2 :: t).getD (0 + 2) 0 = c2 := rfl
  rw [g0, g1, g2, e2, e7]
  generalize v3 b.toNat c1.toNat c2.toNat = V at *
  simp [h, e1, e1', k3, k4, k5, Utf8.runeError]

theorem no_kind_65533 : kindR 65533 = 0 := by kernel_rfl
theorem memB_none {l : List Nat} {c : Int} (hl : ∀ x ∈ l, x < 55296) (h : 55296 ≤ c) : memB l c = false := by
  unfold memB
  rw [List.any_eq_false]
  intro d hd
  have := hl d hd
  simp
  omega
theorem latin_low : ∀ x ∈ latinL, x < 55296 := of_decide_eq_true (by kernel_rfl)
theorem greek_low : ∀ x ∈ greekL, x < 55296 := of_decide_eq_true (by kernel_rfl)
theorem cyr_low : ∀ x ∈ cyrL, x < 55296 := of_decide_eq_true (by kernel_rfl)
theorem inB_false {c lo hi : Int} (h : ¬ (lo ≤ c ∧ c ≤ hi)) : inB c lo hi = false := by
  unfold inB
  rw [Bool.and_eq_false_iff]
  by_cases h1 : lo ≤ c
  · exact .inr (by simp; omega)
  · exact .inl (by simp; omega)
theorem kind_surrogate {c : Nat} (h : 55296 ≤ c) (h2 : c < 57344) : kindR (c : Int) = 0 := by
  unfold kindR clsR
  rw [inB_false (by omega), if_neg (by decide)]
  unfold clsN
  rw [inB_false (by omega), inB_false (by omega), inB_false (by omega), inB_false (by omega), inB_false (by omega), inB_false (by omega), inB_false (by omega), inB_false (by omega), inB_false (by omega), inB_false (by omega), inB_false (by omega),
    memB_none latin_low (by omega), memB_none greek_low (by omega), memB_none cyr_low (by omega)]
  have e : ∀ d : Int, d < 55296 ∨ 57344 ≤ d → ((c : Int) == d) = false := fun d hd => eqb_false (by omega)
  rw [e 32 (by omega), e 160 (by omega), e 178 (by omega), e 179 (by omega), e 185 (by omega), e 383 (by omega), e 64257 (by omega), e 64258 (by omega), e 803 (by omega), e 807 (by omega), e 808 (by omega)]
  rfl

theorem kind_big {c : Nat} (h : 65536 ≤ c) : kindR (c : Int) = 0 := by
  by_cases hk : kindR (c : Int) = 0
  · exact hk
  · have h1 : hasR (c : Int) = true := has_kind.2 hk
    have := has_range h1
    omega
theorem pair_snd {a b c d : Nat} (h : (a, b) = (c, d)) : b = d := congrArg Prod.snd h
theorem at_none_facts {t : List UInt8} (h0 : t ≠ []) (h : atR t = (0, 0)) :
    ¬ (t.getD 0 0).toNat < 128 ∧ (1 < t.length → is2 (t.getD 0 0).toNat (t.getD 1 0).toNat = false) ∧ (2 < t.length → is3 (t.getD 0 0).toNat (t.getD 1 0).toNat (t.getD 2 0).toNat = false) := by
  match t with
  | [] => exact absurd rfl h0
  | b :: t =>
    have hb : ¬ b.toNat < 128 := fun hb => by rw [at_ascii hb] at h; exact absurd (pair_snd h) (by decide)
    refine ⟨hb, ?_, ?_⟩
    · intro hl
      match t with
      | [] => simp at hl
      | c1 :: t =>
        show is2 b.toNat c1.toNat = false
        refine bool_false fun h2 => ?_
        rw [at_two hb h2] at h
        exact absurd (pair_snd h) (by decide)
    · intro hl
      match t with
      | [] => simp at hl
      | [_] => simp at hl
      | c1 :: c2 :: t =>
        show is3 b.toNat c1.toNat c2.toNat = false
        refine bool_false fun h3 => ?_
        have h2 : is2 b.toNat c1.toNat = false := is2_no (is3_of h3).1
        rw [at_three hb h2 h3] at h
        exact absurd (pair_snd h) (by decide)
theorem rune_none {t : List UInt8} (h0 : t ≠ []) (h : atR t = (0, 0)) : kindR ((runeAt t).1 : Int) = 0 := by
  obtain ⟨h1, h2, h3⟩ := at_none_facts h0 h
  have hl : (str t).size = t.length := rfl
  unfold runeAt Utf8.decode
  simp only [get_str, hl, Nat.zero_add]
  generalize (t.getD 0 0).toNat = b0 at *
  generalize (t.getD 1 0).toNat = b1 at *
  generalize (t.getD 2 0).toNat = b2 at *
  generalize (t.getD 3 0).toNat = b3 at *
  rw [if_neg h1]
  split
  · rename_i hc
    simp only [Bool.and_eq_true, beq_iff_eq, decide_eq_true_eq] at hc
    have h4 := of_decide_eq_false (h2 hc.2.1)
    rw [if_neg (by omega)]
    exact no_kind_65533
  · split
    · rename_i hc
      simp only [Bool.and_eq_true, beq_iff_eq, decide_eq_true_eq] at hc
      have h4 := of_decide_eq_false (h3 hc.2.1)
      unfold v3 at h4
      rw [if_neg (by
        simp only [Bool.and_eq_true, decide_eq_true_eq]
        rintro ⟨h5, _⟩
        omega)]
      exact no_kind_65533
    · split
      · split
        · rename_i hc
          simp only [Bool.and_eq_true, decide_eq_true_eq] at hc
          exact kind_big hc.1
        · exact no_kind_65533
      · exact no_kind_65533

/-- A character of a range is one of the repertoire exactly if the reference finds it there. -/
theorem rune_good {t : List UInt8} (h0 : t ≠ []) (h : kindR ((runeAt t).1 : Int) ≠ 0) : atR t = runeAt t := by
  rcases at_cases t with rfl | ⟨b, t, rfl, hb⟩ | ⟨b, c1, t, rfl, hb, h2⟩ | ⟨b, c1, c2, t, rfl, hb, h2, h3⟩ | ⟨_, hn⟩
  · exact absurd rfl h0
  · rw [at_ascii hb, rune_ascii hb]
  · rw [at_two hb h2, rune_two hb h2]
  · rw [at_three hb h2 h3, rune_three hb h3] at *
    split
    · rfl
    · rename_i hg
      rw [if_neg hg] at h
      exact absurd no_kind_65533 h
  · exact absurd (rune_none h0 hn) h
theorem rune_bad {t : List UInt8} (h0 : t ≠ []) (h : kindR ((runeAt t).1 : Int) = 0) : (atR t).2 = 0 ∨ kindR ((atR t).1 : Int) = 0 := by
  rcases at_cases t with rfl | ⟨b, t, rfl, hb⟩ | ⟨b, c1, t, rfl, hb, h2⟩ | ⟨b, c1, c2, t, rfl, hb, h2, h3⟩ | ⟨_, hn⟩
  · exact absurd rfl h0
  · rw [rune_ascii hb] at h
    rw [at_ascii hb]
    exact .inr h
  · rw [rune_two hb h2] at h
    rw [at_two hb h2]
    exact .inr h
  · rw [rune_three hb h3] at h
    rw [at_three hb h2 h3]
    by_cases hg : goodU (v3 b.toNat c1.toNat c2.toNat) = true
    · rw [if_pos hg] at h
      exact .inr h
    · refine .inr (kind_surrogate ?_ ?_)
      · unfold goodU at hg
        simp only [Bool.or_eq_true, decide_eq_true_eq, not_or] at hg
        show 55296 ≤ v3 _ _ _
        omega
      · unfold goodU at hg
        simp only [Bool.or_eq_true, decide_eq_true_eq, not_or] at hg
        show v3 _ _ _ < 57344
        omega
  · exact .inl (by rw [hn])
theorem Past.rune {s : List UInt8} {k c n : Nat} {l : List Nat} (h : Past s k l) (hk : k < s.length) (ha : Utf8.decode (str s) k = (c, n)) (hc : hasR (c : Int) = true) : Past s (k + n) (l ++ [c]) ∧ n ≠ 0 := by
  have hne : s.drop k ≠ [] := fun e => by rw [List.drop_eq_nil_iff] at e; omega
  rw [decode_drop] at ha
  have h1 := rune_good hne (by rw [ha]; exact has_kind.1 hc)
  rw [ha] at h1
  have h0 : n ≠ 0 := by
    intro h0
    subst h0
    rcases at_cases (s.drop k) with e | ⟨b, t, e, hb⟩ | ⟨b, c1, t, e, hb, h2⟩ | ⟨b, c1, c2, t, e, hb, h2, h3⟩ | ⟨_, hn⟩
    · exact hne e
    · rw [e, at_ascii hb] at h1; exact absurd (pair_snd h1) (by decide)
    · rw [e, at_two hb h2] at h1; exact absurd (pair_snd h1) (by decide)
    · rw [e, at_three hb h2 h3] at h1; exact absurd (pair_snd h1) (by decide)
    · rw [hn] at h1
      injection h1 with e1 e2
      rw [← e1] at hc
      exact absurd hc (by decide)
  exact ⟨h.next hk h1 h0 (has_kind.1 hc), h0⟩
theorem Past.rune_bad {s : List UInt8} {k c n : Nat} {l : List Nat} (h : Past s k l) (hk : k < s.length) (ha : Utf8.decode (str s) k = (c, n)) (hc : hasR (c : Int) = false) : decR s = none := by
  have hne : s.drop k ≠ [] := fun e => by rw [List.drop_eq_nil_iff] at e; omega
  rw [decode_drop] at ha
  have h1 := Go.Proofs.YtbnchnbblchmnaaGreatDoor.rune_bad hne (by rw [ha]; exact has_kind_no hc)
  exact h.bad hk rfl h1

/-! Rows of the call's own beside an iterator. -/
theorem own_iter {w : World} {B e size n : Nat} {v : Value} {xs : List Value} {k : Nat} {s : ByteArray} {pos : Nat} (h : w.ownsRow B e size v n xs) (hk : w.heap[k]? = some (.stringIter s pos)) (pos' : Nat) : (w.iterAt k s pos').ownsRow B e size v n xs := by
  refine ⟨h.1, ?_⟩
  rcases h.2 with h0 | ⟨g, cap, cur, hv, hb, hg, rest⟩
  · exact .inl h0
  · exact .inr ⟨g, cap, cur, hv, hb, (Lib.iterAt_other _ _ _ _ _ (fun e => by subst e; rw [hk] at hg; cases hg)).trans hg, rest⟩
theorem own_not_iter {w : World} {B e size n : Nat} {v : Value} {xs : List Value} {k : Nat} {s : ByteArray} {pos : Nat} (h : w.ownsRow B e size v n xs) (hk : w.heap[k]? = some (.stringIter s pos)) : v.ownBlock ≠ some k := by
  rcases h.2 with ⟨rfl, _⟩ | ⟨g, cap, cur, rfl, hb, hg, rest⟩
  · simp [Value.ownBlock]
  · intro e
    simp only [Value.ownBlock, Option.some.injEq] at e
    subst e
    rw [hk] at hg
    cases hg

end Go.Proofs.YtbnchnbblchmnaaGreatDoor

namespace Go.Proofs.YtbnchnbblchmnaaGreatDoor
open Go.RowKit

mutual
def flat {H : Type} : DataW H → List Value
  | .lit (.bool b) => [.bool b]
  | .lit (.int k n) => [.int k n]
  | .lit (.string s) => [.string ⟨s.toArray⟩]
  | .agg ds => flatAll ds
  | _ => []
def flatAll {H : Type} : List (DataW H) → List Value
  | [] => []
  | d :: r => flat d ++ flatAll r
end

def offsOk (P : Program) : List Field → Nat → Nat → Bool
  | [], o, c => o == c
  | f :: r, o, c => f.offset == o && offsOk P r (o + P.cellsOf f.type) c
/-- A type of numbers, strings, structs and arrays, at most n deep, whose parts lie one behind the other. -/
def plainTy (P : Program) : Nat → TypeId → Bool
  | 0, _ => false
  | n + 1, t => match P.underlying t with
    | some (.int _) => true
    | some .string => true
    | some .bool => true
    | some (.array m e) => P.cellsOf t == m * P.cellsOf e && plainTy P n e
    | some (.struct fs) => offsOk P fs.toList 0 (P.cellsOf t) && fs.toList.all fun f => plainTy P n f.type
    | _ => false

section
variable {H : Type} {enc : TypeId × Value → H} {P : Program} {w : World} {base : Nat} {sp : Nat → Bool} {held : Bool}

theorem trod_arr {fuel : Nat} {t e : TypeId} {m : Nat} {cs : List Value} {d : DataW H} {p : List MemPlace} (ht : P.underlying t = some (.array m e)) (h : DataW.trod enc P w base sp held fuel t cs = some (d, p)) :
    ∃ n xs, fuel = n + 1 ∧ d = .agg (xs.map (fun x : DataW H × List MemPlace => x.1)) ∧ cs.length = P.cellsOf t ∧
      (List.range m).mapM (fun i => DataW.trod enc P w base sp held n e ((cs.drop (i * P.cellsOf e)).take (P.cellsOf e))) = some xs := by
  cases fuel with
  | zero => simp [DataW.trod] at h
  | succ n =>
    simp only [DataW.trod, ht] at h
    split at h
    · rename_i hl
      obtain ⟨xs, hm, hx⟩ := Option.map_eq_some_iff.1 h
      exact ⟨n, xs, rfl, (congrArg Prod.fst hx).symm, hl, hm⟩
    · cases h

theorem flat_rows {c : Nat} {cs : List Value} : ∀ (m : Nat) (ds : List (DataW H)), ds.length = m → (∀ i d, ds[i]? = some d → (cs.drop (i * c)).take c = flat d) → cs.length = m * c → cs = flatAll ds := by
  intro m
  induction m generalizing cs with
  | zero =>
    intro ds hds _ hl
    rw [List.length_eq_zero_iff.1 hds]
    rw [Nat.zero_mul] at hl
    exact List.length_eq_zero_iff.1 hl
  | succ m ih =>
    intro ds hds hall hl
    match ds, hds with
    | d :: r, hds =>
      have h0 := hall 0 d rfl
      rw [Nat.zero_mul, List.drop_zero] at h0
      have h1 := ih (cs := cs.drop c) r (by simpa using hds) (fun i d' hd' => by
        rw [List.drop_drop, ← hall (i + 1) d' (by simpa using hd')]
        congr 2
        rw [Nat.succ_mul]
        omega) (by rw [List.length_drop, hl, Nat.succ_mul]; omega)
      rw [flatAll, ← h0, ← h1, List.take_append_drop]

theorem flat_struct {cs : List Value} : ∀ (fs : List Field) (ds : List (DataW H)) (o : Nat), fs.length = ds.length → offsOk P fs o cs.length = true →
    (∀ (i : Nat) (f : Field) (d : DataW H), fs[i]? = some f → ds[i]? = some d → (cs.drop f.offset).take (P.cellsOf f.type) = flat d) → cs.drop o = flatAll ds
  | [], [], o, _, ho, _ => by
    unfold offsOk at ho
    rw [beq_iff_eq] at ho
    rw [flatAll, List.drop_eq_nil_iff]
    omega
  | f :: fs, d :: ds, o, hl, ho, hall => by
    unfold offsOk at ho
    rw [Bool.and_eq_true, beq_iff_eq] at ho
    have h0 := hall 0 f d rfl rfl
    have h1 := flat_struct fs ds _ (by simpa using hl) ho.2 fun i f' d' hf' hd' => hall (i + 1) f' d' (by simpa using hf') (by simpa using hd')
    rw [ho.1] at h0
    rw [flatAll, ← h0, ← h1, ← List.drop_drop, List.take_append_drop]
  | [], _ :: _, _, hl, _, _ => by simp at hl
  | _ :: _, [], _, hl, _, _ => by simp at hl

theorem flat_of_trod : ∀ (n fuel : Nat) (t : TypeId) (cs : List Value) (d : DataW H) (p : List MemPlace), plainTy P n t = true → DataW.trod enc P w base sp held fuel t cs = some (d, p) → cs = flat d := by
  intro n
  induction n with
  | zero => intro fuel t cs d p h; cases h
  | succ n ih =>
    intro fuel t cs d p hp h
    unfold plainTy at hp
    split at hp
    · rename_i k ht
      obtain ⟨z, rfl, hx, _⟩ := DataW.trod_int ht h
      rw [show d = _ from congrArg Prod.fst hx]
      rfl
    · rename_i ht
      obtain ⟨s, rfl, hx, _⟩ := DataW.trod_string ht h
      rw [show d = _ from congrArg Prod.fst hx]
      rfl
    · rename_i ht
      obtain ⟨b, rfl, hx⟩ := DataW.trod_bool ht h
      rw [show d = _ from congrArg Prod.fst hx]
      rfl
    · rename_i m e ht
      rw [Bool.and_eq_true, beq_iff_eq] at hp
      obtain ⟨f, xs, rfl, rfl, hl, hm⟩ := trod_arr ht h
      have hxl : xs.length = m := by simpa using Lib.mapM_length hm
      refine flat_rows (c := P.cellsOf e) m _ (by rw [List.length_map]; exact hxl) (fun i d hd => ?_) (by rw [hl, hp.1])
      rw [List.getElem?_map] at hd
      obtain ⟨x, hx, rfl⟩ := Option.map_eq_some_iff.1 hd
      have hi : i < m := by rw [← hxl]; exact (List.getElem?_eq_some_iff.1 hx).1
      obtain ⟨b, hb, hf⟩ := Lib.mapM_at hm i i (by simp [hi])
      rw [hx] at hb
      cases hb
      exact ih f e _ x.1 x.2 hp.2 hf
    · rename_i fs ht
      rw [Bool.and_eq_true] at hp
      obtain ⟨xs, f, rfl, hx, hl, hxl, hall⟩ := DataW.trod_struct ht h
      rw [show d = _ from congrArg Prod.fst hx]
      have := flat_struct (P := P) (cs := cs) fs.toList (xs.map (·.1)) 0 (by simp [hxl]) (by rw [hl]; exact hp.1) (fun i g d hg hd => by
        rw [List.getElem?_map] at hd
        obtain ⟨x, hx, rfl⟩ := Option.map_eq_some_iff.1 hd
        have hg2 : fs[i]? = some g := by rwa [← Array.getElem?_toList]
        have h1 := hall i g hg2
        rw [hx] at h1
        exact ih f g.type _ x.1 x.2 (List.all_eq_true.1 hp.2 g (List.mem_of_getElem? hg)) h1)
      rw [List.drop_zero] at this
      rw [this]
      rfl
    · cases hp
end

/-- A listed variable of such a type holds its datum's values. -/
theorem laid_flat {P : Program} {w : World} {n : String} {dd : DataW Unit} {rest : List (String × DataW Unit)} (h : laidMet P ((n, dd) :: rest) w) {g t : Nat} (hg : P.globalNamed n = some g) (ht : (P.globals[g]?).map (·.type) = some t) (hp : plainTy P 8 t = true) :
    ∃ u fz, w.heap[g]? = some (.cells (flat dd).toArray u fz) := by
  obtain ⟨ps, ⟨g', t', cs, fuel, p, q, hg', ht', hvar, hd, _, _⟩, _⟩ := h
  obtain rfl := Option.some.inj (hg.symm.trans hg')
  obtain rfl := Option.some.inj (ht.symm.trans ht')
  have h1 := flat_of_trod 8 fuel t _ dd p hp hd
  unfold World.var? at hvar
  rw [hg] at hvar
  simp only [Option.bind_some] at hvar
  split at hvar
  · rename_i cs' u fz hh
    cases hvar
    refine ⟨u, fz, ?_⟩
    rw [hh, ← h1]
  · cases hvar

end Go.Proofs.YtbnchnbblchmnaaGreatDoor
