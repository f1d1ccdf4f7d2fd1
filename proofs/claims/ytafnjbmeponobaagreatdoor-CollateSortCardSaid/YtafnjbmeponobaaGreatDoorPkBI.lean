/-
  Insertion sort, as plain mathematics (nothing is asked of the comparison); a row of strings of the call's own.
  A region that draws its order, whose own operations only read, and whose callees
  may do whatever leaves the blocks that were there as they were: one walk, by the
  kit's theorem over whatever class of worlds, at the class 'the blocks that were
  there stand as they stood'.
  The reference's Valid, good.
  The reference's good, Primary.
-/
import Derived.Test.YtafnjbmeponobaaGreatDoorPkAF
import Derived.Test.YtafnjbmeponobaaGreatDoorPkAR
import Derived.Test.YtafnjbmeponobaaGreatDoorPkBH
import Derived.Test.YtafnjbmeponobaaGreatDoorWords
import Derived.Deep.QuietTactic
import Derived.Test.YtafnjbmeponobaaGreatDoorPkAW
import Derived.BigQuiet
import Derived.Test.YtafnjbmeponobaaGreatDoorPkBD
namespace Go.Proofs.YtafnjbmeponobaaGreatDoor
open Go.RowKit

section
variable {α : Type} (lt : α → α → Bool)
def insR (y : α) : List α → List α
  | [] => [y]
  | x :: r => if lt y x = true then x :: insR y r else y :: x :: r
def insS (S : List α) (y : α) : List α := (insR lt y S.reverse).reverse
def sortS (l : List α) : List α := l.foldl (insS lt) []
theorem insS_nil (y : α) : insS lt [] y = [y] := rfl
theorem insS_yes {S : List α} {x y : α} (h : lt y x = true) : insS lt (S ++ [x]) y = insS lt S y ++ [x] := by
  unfold insS
  rw [List.reverse_append]
  simp [insR, h]
theorem insS_no {S : List α} {x y : α} (h : lt y x = false) : insS lt (S ++ [x]) y = S ++ [x] ++ [y] := by
  unfold insS
  rw [List.reverse_append]
  simp [insR, h]
theorem insR_len (y : α) : ∀ l : List α, (insR lt y l).length = l.length + 1
  | [] => rfl
  | x :: r => by
    unfold insR
    split
    · rw [List.length_cons, List.length_cons, insR_len y r]
    · rfl
theorem insR_mem (y u : α) : ∀ l : List α, u ∈ insR lt y l ↔ u = y ∨ u ∈ l
  | [] => by simp [insR]
  | x :: r => by
    unfold insR
    split
    · rw [List.mem_cons, insR_mem y u r, List.mem_cons]
      constructor
      · rintro (h | h | h)
        · exact .inr (.inl h)
        · exact .inl h
        · exact .inr (.inr h)
      · rintro (h | h | h)
        · exact .inr (.inl h)
        · exact .inl h
        · exact .inr (.inr h)
    · rw [List.mem_cons]
theorem insS_len (S : List α) (y : α) : (insS lt S y).length = S.length + 1 := by unfold insS; rw [List.length_reverse, insR_len, List.length_reverse]
theorem sortS_snoc (l : List α) (y : α) : sortS lt (l ++ [y]) = insS lt (sortS lt l) y := by unfold sortS; rw [List.foldl_append]; rfl
theorem foldl_len : ∀ (l acc : List α), (l.foldl (insS lt) acc).length = acc.length + l.length
  | [], _ => rfl
  | y :: l, acc => by rw [List.foldl_cons, foldl_len l, insS_len, List.length_cons]; omega
theorem sortS_len (l : List α) : (sortS lt l).length = l.length := by unfold sortS; rw [foldl_len]; simp
theorem foldl_mem (u : α) : ∀ (l acc : List α), u ∈ l.foldl (insS lt) acc → u ∈ acc ∨ u ∈ l
  | [], _, h => .inl h
  | y :: l, acc, h => by
    rw [List.foldl_cons] at h
    rcases foldl_mem u l _ h with h | h
    · unfold insS at h
      rw [List.mem_reverse, insR_mem, List.mem_reverse] at h
      rcases h with rfl | h
      · exact .inr (by simp)
      · exact .inl h
    · exact .inr (by simp [h])
theorem sortS_mem {l : List α} {u : α} (h : u ∈ sortS lt l) : u ∈ l := by
  rcases foldl_mem lt u l [] h with h | h
  · cases h
  · exact h
theorem sortS_one (x : α) : sortS lt [x] = [x] := rfl
end

/-- What Sort gives. -/
def ltT (t : List RuleL) (a b : List UInt8) : Bool := decide (nCmp t a b < 0)
def nSort (t : List RuleL) (l : List (List UInt8)) : List (List UInt8) := if (l.all fun s => goodT t s) = true then sortS (ltT t) l else l
theorem ltT_swap (t : List RuleL) (a b : List UInt8) : decide (0 < nCmp t b a) = ltT t a b := by
  unfold ltT
  rw [nCmp_neg t a b]
  exact decide_eq_decide.2 (by omega)

/-- In w, the row of strings of block g, of cap cells, begins with L. -/
def RowS (w : World) (g cap : Nat) (L : List (List UInt8)) : Prop := ∃ cu, Box w g 9 cu ∧ cu.size = cap ∧ cu.toList.take L.length = L.map sv
theorem RowS.same {w : World} {g cap : Nat} {L L' : List (List UInt8)} (h : RowS w g cap L) (e : L = L') : RowS w g cap L' := e ▸ h
theorem RowS.below {w w' : World} {B g cap : Nat} {L : List (List UInt8)} (h : RowS w g cap L) (hb : Below B w w') (hg : g < B) : RowS w' g cap L := by
  obtain ⟨cu, h1, h2, h3⟩ := h
  exact ⟨cu, h1.below hb hg, h2, h3⟩
theorem RowS.arr {w : World} {g cap B : Nat} {L : List (List UInt8)} (h : RowS w g cap L) (hg : g < B) (c : Nat) (hc : L.length ≤ c) : Arr sv w B (.slice (some ⟨g, 0, none⟩) L.length c) L := by
  obtain ⟨cu, h1, h2, h3⟩ := h
  refine .inr ⟨⟨g, 0, none⟩, c, rfl, hc, fun _ => hg, fun i u hu => ?_⟩
  have h4 : cu[i]? = some (sv u) := by
    have h5 : (cu.toList.take L.length)[i]? = some (sv u) := by rw [h3, List.getElem?_map, hu]; rfl
    rw [List.getElem?_take] at h5
    split at h5
    · rw [Array.getElem?_toList] at h5; exact h5
    · cases h5
  rw [plain_add]
  exact (h1.cell i).trans h4
theorem swapS {cu : Array Value} {N : Nat} {P R : List (List UInt8)} {x y : List UInt8} {p : Nat} (ht : cu.toList.take N = (P ++ x :: (y :: R)).map sv) (hp : p = P.length) :
    ((cu.setIfInBounds p (sv y)).setIfInBounds (p + 1) (sv x)).toList.take N = (P ++ y :: (x :: R)).map sv := by
  subst hp
  rw [Array.toList_setIfInBounds, Array.toList_setIfInBounds, List.take_set, List.take_set, ht]
  simp only [List.map_append, List.map_cons]
  have h := swap_set (P := P.map sv) (M := []) (R := R.map sv) (x := sv x) (y := sv y)
  rw [List.length_map] at h
  exact h
theorem swapS_back {cu : Array Value} {N : Nat} {P R : List (List UInt8)} {x y : List UInt8} {p : Nat} (ht : cu.toList.take N = (P ++ x :: (y :: R)).map sv) (hp : p = P.length) :
    ((cu.setIfInBounds (p + 1) (sv x)).setIfInBounds p (sv y)).toList.take N = (P ++ y :: (x :: R)).map sv := by
  have h := swapS ht hp
  have e : (cu.setIfInBounds (p + 1) (sv x)).setIfInBounds p (sv y) = (cu.setIfInBounds p (sv y)).setIfInBounds (p + 1) (sv x) := by
    apply Array.toList_inj.1
    rw [Array.toList_setIfInBounds, Array.toList_setIfInBounds, Array.toList_setIfInBounds, Array.toList_setIfInBounds, List.set_comm _ _ (by omega)]
  rw [e]
  exact h
theorem takeS {cu : Array Value} {N i : Nat} {L : List (List UInt8)} {x : List UInt8} (ht : cu.toList.take N = L.map sv) (hx : L[i]? = some x) : cu[i]? = some (sv x) := by
  have h5 : (cu.toList.take N)[i]? = some (sv x) := by rw [ht, List.getElem?_map, hx]; rfl
  rw [List.getElem?_take] at h5
  split at h5
  · rw [Array.getElem?_toList] at h5; exact h5
  · cases h5
theorem swapS_fst {cu : Array Value} {N : Nat} {P R : List (List UInt8)} {x y : List UInt8} {p : Nat} (ht : cu.toList.take N = (P ++ x :: (y :: R)).map sv) (hp : p = P.length) : cu[p]? = some (sv x) := takeS ht (by subst hp; simp)
theorem swapS_snd {cu : Array Value} {N : Nat} {P R : List (List UInt8)} {x y : List UInt8} {p : Nat} (ht : cu.toList.take N = (P ++ x :: (y :: R)).map sv) (hp : p = P.length) : cu[p + 1]? = some (sv y) := takeS ht (by
  subst hp
  rw [List.getElem?_append_right (by omega)]
  simp)

theorem row_of_own {w : World} {base : Nat} {v : Value} {l : List (List UInt8)} (h : w.ownsRow base 9 1 v l.length (l.map sv)) (h0 : 0 < l.length) :
    ∃ g cap k, v = .slice (some ⟨g, 0, none⟩) l.length cap ∧ base ≤ g ∧ g < w.heap.size ∧ l.length ≤ cap ∧ RowS w g k l := by
  rcases h.2 with ⟨_, h1⟩ | ⟨g, cap, cur, hv, hb, hx, hnc, hcm, hcs, ht⟩
  · omega
  · exact ⟨g, cap, cur.size, hv, hb, (Array.getElem?_eq_some_iff.1 hx).1, hnc, cur, hx, rfl, by rw [Nat.mul_one] at ht; exact ht⟩

end Go.Proofs.YtafnjbmeponobaaGreatDoor

namespace Go.Proofs.YtafnjbmeponobaaGreatDoor
open Go.RowKit

/-- How a world of the class differs from the one at hand: what was drawn, the blocks behind. -/
structure Reach where
  d : Nat
  os : Array Obj

instance : Inhabited Reach := ⟨⟨0, #[]⟩⟩

def reach (w : World) (p : Reach) : World := { w with heap := w.heap ++ p.os, drawn := p.d }

theorem below_reach (w : World) (p : Reach) : Below w.heap.size w (reach w p) :=
  ⟨rfl, rfl, rfl, by show w.heap.size ≤ (w.heap ++ p.os).size; rw [Array.size_append]; omega, fun i hi => by
    show (w.heap ++ p.os)[i]? = w.heap[i]?
    rw [Array.getElem?_append_left hi]⟩

theorem reach_of_below {w w' : World} (h : Below w.heap.size w w') : ∃ p : Reach, w' = reach w p := by
  refine ⟨⟨w'.drawn, w'.heap.extract w.heap.size w'.heap.size⟩, ?_⟩
  have hh : w'.heap = w.heap ++ w'.heap.extract w.heap.size w'.heap.size := by
    apply Array.ext_getElem?
    intro i
    by_cases hi : i < w.heap.size
    · rw [Array.getElem?_append_left hi]; exact h.block i hi
    · rw [Array.getElem?_append_right (by omega), Array.getElem?_extract]
      have := h.size
      by_cases hj : i < w'.heap.size
      · rw [if_pos (by omega)]; congr 1; omega
      · rw [if_neg (by omega)]; exact Array.getElem?_eq_none (by omega)
  have ho := h.os; have ht := h.tape; have hp := h.output
  cases w'; cases w
  simp only at ho ht hp hh
  subst ho ht hp
  show World.mk _ _ _ _ _ = World.mk _ _ _ _ _
  congr 1

theorem cell_reach {w : World} {a : Addr} {v : Value} (hb : a.block < w.heap.size) (h : w.cell? a = some v) (p : Reach) : (reach w p).cell? a = some v :=
  ((below_reach w p).cell hb).trans h

theorem wp_region_reach {P : Program} {id : Nat} {Q : Exit → Act → World → Prop} {a : Act} {w : World} {l : List Oper} (hm : P.follows .mixedOrders = true) (hB : Region.lexB .any l.toArray = true)
    (h : wpQuiet P l.toArray (fun w' => ∃ p : Reach, w' = reach w p) (fun a' => ∀ w', (∃ p : Reach, w' = reach w p) → Q .normal a' w') l a) : (Code.region id l.toArray true).wp P Q a w :=
  wp_region_quiet (C := fun w' => ∃ p : Reach, w' = reach w p) hm hB (reach_of_below ⟨rfl, rfl, rfl, Nat.le_refl _, fun _ _ => rfl⟩) (by simpa using h)

theorem calls_reach {P : Program} {f : FuncId} {args : Array Value} {w : World} {p : Reach} {v : Value}
    (h : Calls P f args (reach w p) fun e w' => e = .returned v ∧ Below (reach w p).heap.size (reach w p) w') : Calls P f args (reach w p) fun e w'' => e = .returned v ∧ ∃ p : Reach, w'' = reach w p :=
  h.mono fun _ _ ⟨he, hq⟩ => ⟨he, reach_of_below (below_next (below_reach w p) hq)⟩

end Go.Proofs.YtafnjbmeponobaaGreatDoor

namespace Go.Proofs.YtafnjbmeponobaaGreatDoor
open Go.RowKit

theorem text_none {s : List UInt8} (h : decR s = none) : textB s = false := by unfold textB; rw [h]
theorem text_some {s : List UInt8} {l : List Nat} (h : decR s = some l) : textB s = (Nat.ble l.length 4 && headB l && decide (nD s = s) && decide (nFold s = s)) := by unfold textB; rw [h]
theorem after_none {s : List UInt8} (h : decR s = none) : afterB s = false := by unfold afterB; rw [h]
theorem after_some {s : List UInt8} {l : List Nat} (h : decR s = some l) : afterB s = (Nat.beq l.length 1 && headB l && isTok s) := by unfold afterB; rw [h]

theorem refLetter_below (c : Nat) (w : World) : Calls Tryz.prog 39 #[.int .i64 (c : Int)] w fun e w' => e = .returned (.bool (Nat.beq (kN c) 1)) ∧ Below w.heap.size w w' :=
  (refLetter_any c w).mono fun _ _ ⟨h1, q, h2⟩ => ⟨h1, h2 ▸ below_drewN (Below.refl _ _) q⟩

attribute [local irreducible] wpQuiet in
set_option maxRecDepth 100000 in
set_option maxHeartbeats 12800000 in
theorem refValid8_any (A : Option Addr) (n c : Nat) (t : List RuleL) (w : World) (h : Tab8 w A n c t) :
    Calls Tryz.prog 14 #[.slice A n c] w fun e w' => e = .returned (.bool (validT t)) ∧ Below w.heap.size w w' := by
  have HL := Lib.hid h.arr.len
  have hn := h.few
  have HSh := Lib.hid h.short
  have h := h.arr
  obtain ⟨R, hR⟩ : ∃ R, validT t = R := ⟨_, rfl⟩
  rw [hR]
  have HR := Lib.hid hR
  clear hR
  go_enter Tryz.func14, Tryz.ntmps14
  go_wp2
  go_loopw [3] (fun i wr => ∃ k : Nat, k ≤ n ∧ i = .int .i64 (k : Int) ∧ Hid (preT (t.take k) = true) ∧ Below w.heap.size w wr) (fun i _ => n - (intOf i).toNat)
  case atStart => exact ⟨0, by omega, rfl, Lib.hid rfl, Below.refl _ _⟩
  case round =>
    obtain ⟨k, hk, rfl, HP, hb⟩ := hrel
    by_cases hlt : k < n
    · have i1 : decide ((k : Int) < (n : Int)) = true := by simp; omega
      have i1n : decide (k < n) = true := by simpa using hlt
      have kz : (k : Int) < (n : Int) := by omega
      obtain ⟨b0, p0, rfl, hB0, hc0⟩ := lets_cells h (by omega)
      obtain ⟨x, hx⟩ : ∃ x, t[k]? = some x := ⟨_, List.getElem?_eq_getElem (by have := HL.out; omega)⟩
      have hxs := HSh.out x (List.mem_of_getElem? hx)
      have HX := Lib.hid hx
      have HC0 := Lib.hid hc0
      have d0 := (hb.cell (p := ⟨b0, p0 + k * 2, none⟩) hB0).trans (hc0 k x hx).1
      have d1 := (hb.cell (p := ⟨b0, p0 + k * 2 + 1, none⟩) hB0).trans (hc0 k x hx).2
      have hb0r : b0 < wr.heap.size := Nat.lt_of_lt_of_le hB0 hb.size
      have HN : Hid (preT (t.take (k + 1)) = (textB x.1 && afterB x.2 && (t.take k).all fun y => decide (y.1 ≠ x.1))) := Lib.hid (by rw [take_next hx, preT_snoc, HP.out]; rfl)
      have HBad : Hid ((textB x.1 && afterB x.2 && (t.take k).all fun y => decide (y.1 ≠ x.1)) = false → R = false) := Lib.hid (fun hf => by rw [← HR.out]; exact validT_no (k := k + 1) (by rw [HN.out]; exact hf))
      have HD1 := Lib.hid (fun W => refDecode_any x.1 W (by omega))
      have HD2 := Lib.hid (fun W => refDecode_any x.2 W (by omega))
      have HDc := Lib.hid (fun W => refDecompose_any x.1 W (by omega))
      have HFo := Lib.hid (fun W => refFold_any x.1 W (by omega))
      have HIs := Lib.hid (fun W => refIs6_any x.2 W (by omega))
      have HT1 := Lib.hid (fun h => text_none (s := x.1) h)
      have HT2 := Lib.hid (fun l h => text_some (s := x.1) (l := l) h)
      have HA1 := Lib.hid (fun h => after_none (s := x.2) h)
      have HA2 := Lib.hid (fun l h => after_some (s := x.2) (l := l) h)
      have HQD := Lib.hid (fun b => str_beq b x.1)
      obtain ⟨x1, x2⟩ := x
      obtain ⟨r1, hr1⟩ : ∃ r, decR x1 = r := ⟨_, rfl⟩
      obtain ⟨r2, hr2⟩ : ∃ r, decR x2 = r := ⟨_, rfl⟩
      obtain ⟨tb, htb⟩ : ∃ b, textB x1 = b := ⟨_, rfl⟩
      obtain ⟨ab, hab⟩ : ∃ b, afterB x2 = b := ⟨_, rfl⟩
      obtain ⟨D, hD⟩ : ∃ D, nD x1 = D := ⟨_, rfl⟩
      obtain ⟨F, hF⟩ : ∃ F, nFold x1 = F := ⟨_, rfl⟩
      obtain ⟨tk, htk⟩ : ∃ b, nIs6 x2 = b := ⟨_, rfl⟩
      have htk2 : isTok x2 = tk := htk
      simp only [hr1, htb, hD, hF] at HD1 HDc HFo HT1 HT2 HN HBad
      simp only [hr2, hab, htk, htk2] at HD2 HIs HA1 HA2 HN HBad
      clear hx hc0 hr1 hr2 htb hab hD hF htk htk2 hxs
      go_wp2_with fail
      refine (HD1.out _).mono ?_
      rintro e w5 ⟨hde, k5⟩
      obtain ⟨A2, n2, c2, b2, rfl, hcase⟩ := hde.form
      have hb5 := below_next hb k5
      have d15 := (k5.cell (p := ⟨b0, p0 + k * 2 + 1, none⟩) hb0r).trans d1
      have d05 := (k5.cell (p := ⟨b0, p0 + k * 2, none⟩) hb0r).trans d0
      have hb05 : b0 < w5.heap.size := Nat.lt_of_lt_of_le hb0r k5.size
      clear hde
      go_wp2_with fail
      refine (HD2.out _).mono ?_
      rintro e w6 ⟨hde2, k6⟩
      obtain ⟨A3, n3, c3, b3, rfl, hcase2⟩ := hde2.form
      have hb6 := below_next hb5 k6
      have d06 := (k6.cell (p := ⟨b0, p0 + k * 2, none⟩) hb05).trans d05
      have d16 := (k6.cell (p := ⟨b0, p0 + k * 2 + 1, none⟩) hb05).trans d15
      have hb06 : b0 < w6.heap.size := Nat.lt_of_lt_of_le hb05 k6.size
      clear hde2 d0 d1 d05 d15
      rcases hcase with ⟨rfl, l, rfl, rfl, hA2, -⟩ | ⟨rfl, rfl, rfl, rfl, rfl⟩
      case inr =>
        have HE : Hid (R = false) := Lib.hid (HBad.out (by rw [HT1.out rfl]; rfl))
        go_wp2
        go_big_quiet (fail)
        go_wp2
        go_ret
        rw [HE.out]
        exact ⟨rfl, below_drewN hb6 _⟩
      obtain ⟨m, hm⟩ : ∃ m, l.length = m := ⟨_, rfl⟩
      have HM := Lib.hid hm
      rw [hm] at hA2 ⊢
      clear hm
      by_cases hm1 : m < 1
      · obtain rfl : m = 0 := by omega
        have HE : Hid (R = false) := Lib.hid (HBad.out (by
          obtain rfl := List.length_eq_zero_iff.1 HM.out
          rw [HT2.out [] rfl]; rfl))
        clear hA2
        go_wp2
        go_big_quiet (fail)
        go_wp2
        go_ret
        rw [HE.out]
        exact ⟨rfl, below_drewN hb6 _⟩
      have t1 : decide ((m : Int) < 1) = false := by simp; omega
      have t1n : decide (m < 1) = false := by simp; omega
      by_cases hm4 : 4 < m
      · have t4 : decide ((m : Int) > 4) = true := by simp; omega
        have t4' : decide (4 < (m : Int)) = true := by simp; omega
        have t4n : decide (4 < m) = true := by simpa using hm4
        have HE : Hid (R = false) := Lib.hid (HBad.out (by
          rw [HT2.out l rfl, HM.out]
          cases hq : Nat.ble m 4 with
          | false => rfl
          | true => rw [Nat.ble_eq] at hq; omega))
        clear hA2
        go_wp2
        go_big_quiet (fail)
        go_wp2
        go_ret
        rw [HE.out]
        exact ⟨rfl, below_drewN hb6 _⟩
      have t4 : decide ((m : Int) > 4) = false := by simp; omega
      have t4' : decide (4 < (m : Int)) = false := by simp; omega
      have t4n : decide (4 < m) = false := by simp; omega
      obtain ⟨ch, l, rfl⟩ : ∃ ch l', l = ch :: l' := by
        cases l with
        | nil => have := HM.out; simp at this; omega
        | cons ch l' => exact ⟨ch, l', rfl⟩
      obtain ⟨a2, q2, rfl, hA2b, hca⟩ := hA2.some_ (by omega)
      have e05 : w5.cell? ⟨a2, q2, none⟩ = some (.int .i64 (ch : Int)) := hca 0 ch rfl
      have e06 := (k6.cell (p := ⟨a2, q2, none⟩) hA2b).trans e05
      have ha26 : a2 < w6.heap.size := Nat.lt_of_lt_of_le hA2b k6.size
      have mz : (0 : Int) < (m : Int) := by omega
      have mzn : 0 < m := by omega
      have HTx : Hid (tb = (decide (D = x1) && decide (F = x1) && Nat.beq (kN ch) 1)) := Lib.hid (by
        rw [HT2.out _ rfl, HM.out, show Nat.ble m 4 = true from ble_of (by omega)]
        show (true && Nat.beq (kN ch) 1 && decide (D = x1) && decide (F = x1)) = _
        cases decide (D = x1) <;> cases decide (F = x1) <;> cases Nat.beq (kN ch) 1 <;> rfl)
      have HLt := Lib.hid (fun W => refLetter_below ch W)
      have hqD := HQD.out D
      have hqF := HQD.out F
      obtain ⟨gd, hgd⟩ : ∃ b, decide (D = x1) = b := ⟨_, rfl⟩
      obtain ⟨gf, hgf⟩ : ∃ b, decide (F = x1) = b := ⟨_, rfl⟩
      obtain ⟨gl, hgl⟩ : ∃ b, Nat.beq (kN ch) 1 = b := ⟨_, rfl⟩
      rw [hgd] at hqD HTx
      rw [hgf] at hqF HTx
      rw [hgl] at HLt HTx
      have hqD2 : (!((str D).toList == (str x1).toList)) = !gd := by rw [hqD]
      have hqF2 : (!((str F).toList == (str x1).toList)) = !gf := by rw [hqF]
      clear hgd hgf hgl e05 hA2 hca hqD hqF
      have f06 := fun p : Reach => cell_reach (p := p) (a := ⟨b0, p0 + k * 2, none⟩) hb06 d06
      have g06 := fun p : Reach => cell_reach (p := p) (a := ⟨a2, q2, none⟩) ha26 e06
      clear e06
      cases gd with
      | false =>
        replace hqD2 : (!((str D).toList == (str x1).toList)) = true := hqD2
        have HE : Hid (R = false) := Lib.hid (HBad.out (by rw [HTx.out]; rfl))
        go_wp2
        refine wp_region_reach (by kernel_rfl) (by kernel_rfl) ?_
        repeat (quiet_step (first
          | (go_at_call 38; exact calls_reach (HDc.out _))
          | (go_at_call 27; exact calls_reach (HFo.out _))
          | (go_at_call 39; exact calls_reach (HLt.out _))))
        refine wpQuiet_nil ?_
        intro _ hw'
        obtain ⟨p1, hw''⟩ := hw'
        subst hw''
        go_wp2
        go_ret
        rw [HE.out]
        exact ⟨rfl, below_next hb6 (below_reach _ p1)⟩
      | true =>
      replace hqD2 : (!((str D).toList == (str x1).toList)) = false := hqD2
      cases gf with
      | false =>
        replace hqF2 : (!((str F).toList == (str x1).toList)) = true := hqF2
        have HE : Hid (R = false) := Lib.hid (HBad.out (by rw [HTx.out]; rfl))
        go_wp2
        refine wp_region_reach (by kernel_rfl) (by kernel_rfl) ?_
        repeat (quiet_step (first
          | (go_at_call 38; exact calls_reach (HDc.out _))
          | (go_at_call 27; exact calls_reach (HFo.out _))
          | (go_at_call 39; exact calls_reach (HLt.out _))))
        refine wpQuiet_nil ?_
        intro _ hw'
        obtain ⟨p1, hw''⟩ := hw'
        subst hw''
        go_wp2
        go_ret
        rw [HE.out]
        exact ⟨rfl, below_next hb6 (below_reach _ p1)⟩
      | true =>
      replace hqF2 : (!((str F).toList == (str x1).toList)) = false := hqF2
      cases gl with
      | false =>
        have HE : Hid (R = false) := Lib.hid (HBad.out (by rw [HTx.out]; rfl))
        go_wp2
        refine wp_region_reach (by kernel_rfl) (by kernel_rfl) ?_
        repeat (quiet_step (first
          | (go_at_call 38; exact calls_reach (HDc.out _))
          | (go_at_call 27; exact calls_reach (HFo.out _))
          | (go_at_call 39; exact calls_reach (HLt.out _))))
        refine wpQuiet_nil ?_
        intro _ hw'
        obtain ⟨p1, hw''⟩ := hw'
        subst hw''
        go_wp2
        go_ret
        rw [HE.out]
        exact ⟨rfl, below_next hb6 (below_reach _ p1)⟩
      | true =>
      obtain rfl : tb = true := HTx.out
      go_wp2
      refine wp_region_reach (by kernel_rfl) (by kernel_rfl) ?_
      repeat (quiet_step (first
        | (go_at_call 38; exact calls_reach (HDc.out _))
        | (go_at_call 27; exact calls_reach (HFo.out _))
        | (go_at_call 39; exact calls_reach (HLt.out _))))
      refine wpQuiet_nil ?_
      intro _ hw'
      obtain ⟨p1, hw''⟩ := hw'
      subst hw''
      obtain ⟨w7, hw7⟩ : ∃ W, reach w6 p1 = W := ⟨_, rfl⟩
      have d17 := cell_reach (p := p1) (a := ⟨b0, p0 + k * 2 + 1, none⟩) hb06 d16
      have k7 := below_reach w6 p1
      rw [hw7] at d17 k7 ⊢
      have hb7 := below_next hb6 k7
      have hb07 : b0 < w7.heap.size := Nat.lt_of_lt_of_le hb06 k7.size
      have K7 := Lib.hid k7
      clear f06 g06 d06 d16 hqD2 hqF2 HTx HT1 HT2 HLt HDc HFo HD1 HD2 HQD hb5 hw7 k7 k5 k6 hA2b ha26
      rcases hcase2 with ⟨rfl, l2, rfl, rfl, hA3, -⟩ | ⟨rfl, rfl, rfl, rfl, rfl⟩
      case inr =>
        have HE : Hid (R = false) := Lib.hid (HBad.out (by rw [HA1.out rfl]; rfl))
        go_wp2
        go_ret
        rw [HE.out]
        exact ⟨rfl, hb7⟩
      obtain ⟨m2, hm2⟩ : ∃ m, l2.length = m := ⟨_, rfl⟩
      have HM2 := Lib.hid hm2
      rw [hm2] at hA3 ⊢
      clear hm2
      by_cases h21 : m2 = 1
      case neg =>
        have s1 : decide ((m2 : Int) = 1) = false := by simp; omega
        have s2 : ((m2 : Int) == 1) = false := by simp; omega
        have s3 : ((m2 : Int) != 1) = true := by simp; omega
        have s4 : decide (m2 = 1) = false := by simpa using h21
        have s5 : (m2 == 1) = false := by simpa using h21
        have HE : Hid (R = false) := Lib.hid (HBad.out (by
          rw [HA2.out l2 rfl, HM2.out]
          cases hq : Nat.beq m2 1 with
          | false => rfl
          | true => exact absurd (Nat.eq_of_beq_eq_true hq) h21))
        clear hA3
        go_wp2
        go_ret
        rw [HE.out]
        exact ⟨rfl, hb7⟩
      obtain rfl : m2 = 1 := h21
      obtain ⟨ch2, rfl⟩ : ∃ c, l2 = [c] := List.length_eq_one_iff.1 HM2.out
      obtain ⟨a3, q3, rfl, hA3b, hca3⟩ := hA3.some_ (by omega)
      have e16 : w6.cell? ⟨a3, q3, none⟩ = some (.int .i64 (ch2 : Int)) := hca3 0 ch2 rfl
      have e17 := (K7.out.cell (p := ⟨a3, q3, none⟩) hA3b).trans e16
      have HAb : Hid (ab = (Nat.beq (kN ch2) 1 && tk)) := Lib.hid (by rw [HA2.out _ rfl]; rfl)
      have HL2 := Lib.hid (fun W => refLetter_below ch2 W)
      obtain ⟨gl2, hgl2⟩ : ∃ b, Nat.beq (kN ch2) 1 = b := ⟨_, rfl⟩
      rw [hgl2] at HL2 HAb
      clear hgl2 hca3 hA3 e16 HA1 HA2 K7 hA3b
      cases gl2 with
      | false =>
        have HE : Hid (R = false) := Lib.hid (HBad.out (by rw [HAb.out]; rfl))
        go_wp2_with fail
        refine (HL2.out _).mono ?_
        rintro e w8 ⟨rfl, k8⟩
        have hb8 := below_next hb7 k8
        clear k8
        go_wp2
        go_ret
        rw [HE.out]
        exact ⟨rfl, hb8⟩
      | true =>
      go_wp2_with fail
      refine (HL2.out _).mono ?_
      rintro e w8 ⟨rfl, k8⟩
      have hb8 := below_next hb7 k8
      have d18 := (k8.cell (p := ⟨b0, p0 + k * 2 + 1, none⟩) hb07).trans d17
      clear d17 e17 k8 hb7 hb07
      cases tk with
      | false =>
        have HE : Hid (R = false) := Lib.hid (HBad.out (by rw [HAb.out]; rfl))
        go_wp2_with fail
        refine (HIs.out _).mono ?_
        rintro e w9 ⟨rfl, k9⟩
        have hb9 := below_next hb8 k9
        clear k9
        go_wp2
        go_ret
        rw [HE.out]
        exact ⟨rfl, hb9⟩
      | true =>
      obtain rfl : ab = true := HAb.out
      go_wp2_with fail
      refine (HIs.out _).mono ?_
      rintro e w9 ⟨rfl, k9⟩
      have hb9 := below_next hb8 k9
      clear k9 d18 hb8 hb6 HAb HL2 HIs HM2 HM hb0r hb05 hb06 hb
      go_wp2
      go_loopw [8] (fun i wi => ∃ j : Nat, j ≤ k ∧ i = .int .i64 (j : Int) ∧ Hid (((t.take j).all fun y => decide (y.1 ≠ x1)) = true) ∧ Below w.heap.size w wi) (fun i _ => k - (intOf i).toNat)
      case atStart => exact ⟨0, by omega, rfl, Lib.hid rfl, hb9⟩
      case round =>
        obtain ⟨j, hj, rfl, HJ, hbj⟩ := hrel
        by_cases hjk : j < k
        · have j1 : decide ((j : Int) < (k : Int)) = true := by simp; omega
          have j1n : decide (j < k) = true := by simpa using hjk
          have jz : (j : Int) < (n : Int) := by omega
          obtain ⟨y, hy⟩ : ∃ y, t[j]? = some y := ⟨_, List.getElem?_eq_getElem (by have := HL.out; omega)⟩
          have y0 := (hbj.cell (p := ⟨b0, p0 + j * 2, none⟩) hB0).trans (HC0.out j y hy).1
          have x0 := (hbj.cell (p := ⟨b0, p0 + k * 2, none⟩) hB0).trans (HC0.out k _ HX.out).1
          have HJ1 : Hid (((t.take (j + 1)).all fun y => decide (y.1 ≠ x1)) = decide (y.1 ≠ x1)) := Lib.hid (by rw [take_next hy, List.all_append, HJ.out]; simp)
          have HY := Lib.hid hy
          clear hy
          by_cases he : y.1 = x1
          · have hq : ((str y.1).toList == (str x1).toList) = true := by rw [str_beq]; simpa using he
            have HE : Hid (R = false) := Lib.hid (HBad.out (by
              rw [Bool.true_and, Bool.true_and, List.all_eq_false]
              refine ⟨y, List.mem_of_getElem? (i := j) ?_, by simp [he]⟩
              rw [List.getElem?_take, if_pos hjk]
              exact HY.out))
            clear he
            go_wp2
            go_quiet (fail)
            go_wp2
            go_ret
            rw [HE.out]
            exact ⟨rfl, below_drewN hbj _⟩
          · have hq : ((str y.1).toList == (str x1).toList) = false := by rw [str_beq]; simpa using he
            have HJ2 : Hid (((t.take (j + 1)).all fun y => decide (y.1 ≠ x1)) = true) := Lib.hid (by rw [HJ1.out]; simpa using he)
            clear he
            go_wp2
            go_quiet (fail)
            go_wp2
            go_roundw
            case rel => exact ⟨j + 1, by omega, by go_num, HJ2, below_drewN hbj _⟩
            case measure => simp [intOf]; omega
        · obtain rfl : j = k := by omega
          have j1 : decide ((j : Int) < (j : Int)) = false := by simp
          have j1n : decide (j < j) = false := by simp
          have HPN : Hid (preT (t.take (j + 1)) = true) := Lib.hid (by rw [HN.out, HJ.out]; rfl)
          go_wp2
          go_roundw
          case rel => exact ⟨j + 1, by omega, by go_num, HPN, hbj⟩
          case measure => simp [intOf]; omega
    · obtain rfl : k = n := by omega
      have i1 : decide ((k : Int) < (k : Int)) = false := by simp
      have i1n : decide (k < k) = false := by simp
      have HE : Hid (R = decide ((k : Int) ≤ 40)) := Lib.hid (by
        have h5 := HP.out
        rw [List.take_of_length_le (by rw [HL.out]; exact Nat.le_refl _)] at h5
        rw [← HR.out]
        unfold validT
        rw [h5, HL.out, Bool.true_and, Bool.eq_iff_iff]
        simp
        omega)
      go_wp2
      go_ret
      rw [HE.out]
      exact ⟨rfl, hb⟩

end Go.Proofs.YtafnjbmeponobaaGreatDoor

namespace Go.Proofs.YtafnjbmeponobaaGreatDoor
open Go.RowKit

set_option maxHeartbeats 3200000 in
theorem refGood8_any (A : Option Addr) (n c : Nat) (t : List RuleL) (s : List UInt8) (w : World) (h : Tab8 w A n c t) (hs : s.length ≤ 60000) :
    Calls Tryz.prog 44 #[.slice A n c, .string (str s)] w fun e w' => e = .returned (.bool (goodT t s)) ∧ Below w.heap.size w w' := by
  have HD := Lib.hid (refDecode_any s w (by omega))
  have HV := Lib.hid (fun W (hW : Below w.heap.size w W) => refValid8_any A n c t W (h.up hW))
  obtain ⟨V, hV⟩ : ∃ V, validT t = V := ⟨_, rfl⟩
  obtain ⟨r, hr⟩ : ∃ r, decR s = r := ⟨_, rfl⟩
  have HG : Hid (goodT t s = (r.isSome && V)) := Lib.hid (by unfold goodT; rw [hr, hV])
  rw [HG.out]
  rw [hV] at HV
  rw [hr] at HD
  clear HG hV hr h
  go_enter Tryz.func44, Tryz.ntmps44
  go_wp2_with fail
  refine HD.out.mono ?_
  rintro e w1 ⟨hde, k1⟩
  obtain ⟨A2, n2, c2, b2, rfl, hcase⟩ := hde.form
  rcases hcase with ⟨rfl, l, rfl, rfl, -, -⟩ | ⟨rfl, rfl, rfl, rfl, rfl⟩
  · go_wp2_with fail
    refine (HV.out _ k1).mono ?_
    rintro e w2 ⟨rfl, k2⟩
    go_wp2
    go_ret
    exact ⟨rfl, below_next k1 k2⟩
  · go_wp2
    go_ret
    exact ⟨rfl, k1⟩

theorem elems_len3 (T : List LetL) : ∀ (m : Nat) (l : List Nat), l.length ≤ m → (∀ c ∈ l, Asked c) → (elemsL T l).length ≤ 3 * l.length
  | 0, l, h, _ => by
    obtain rfl := List.length_eq_zero_iff.1 (Nat.le_zero.1 h)
    rw [elemsL_nil]; simp
  | m + 1, [], _, _ => by rw [elemsL_nil]; simp
  | m + 1, c :: l, h, ha => by
    rw [List.length_cons] at h
    cases hb : bestC T (c :: l) with
    | none =>
      rw [elemsL_none hb, List.length_append, List.length_cons]
      have h1 := elems_len3 T m l (by omega) (fun d hd => ha d (List.mem_cons_of_mem _ hd))
      have h2 := (ok_col (ha c List.mem_cons_self).has (ha c List.mem_cons_self).whole).few
      omega
    | some b =>
      have h0 := (best_some hb).choose_spec.2.2.1
      rw [elemsL_some hb, List.length_cons, List.length_cons]
      have hl : ((c :: l).drop b.2).length ≤ l.length := by rw [List.length_drop, List.length_cons]; omega
      have h1 := elems_len3 T m ((c :: l).drop b.2) (by omega) (fun d hd => ha d (List.mem_of_mem_drop hd))
      omega
theorem elsT_len (t : List RuleL) (s : List UInt8) : (elsT t s).length ≤ 9 * s.length + 1000 := by
  have h := elems_len3 (t.map letL) _ (dcF (nL s)) (Nat.le_refl _) (fun c hc => ⟨(dc_facts s c hc).1, (dc_facts s c hc).2⟩)
  have h1 := dcF_len (nL s)
  have h2 := nL_len s
  show (elemsL _ _).length ≤ _
  omega

set_option maxHeartbeats 3200000 in
theorem refPrimary8_any (A : Option Addr) (n c : Nat) (t : List RuleL) (s : List UInt8) (w : World) (h : Tab8 w A n c t) (hs : s.length ≤ 60000) :
    Calls Tryz.prog 20 #[.slice A n c, .string (str s)] w fun e w' => ∃ A' n' c', e = .returned (.slice A' n' c') ∧ Arr nv w' w'.heap.size (.slice A' n' c') (nPrim t s) ∧ Below w.heap.size w w' := by
  have HV := Lib.hid (refGood8_any A n c t s w h hs)
  cases hv : goodT t s with
  | false =>
    rw [hv] at HV
    rw [nPrim_bad hv]
    clear h hv
    go_enter Tryz.func20, Tryz.ntmps20
    go_wp2_with fail
    refine HV.out.mono ?_
    rintro e w1 ⟨rfl, k1⟩
    go_wp2
    go_ret
    exact ⟨_, _, _, rfl, .inl ⟨rfl, rfl⟩, k1⟩
  | true =>
    rw [hv] at HV
    have hG : nPrim t s = primL (elsT t s) := if_pos hv
    rw [hG]
    have hvT : validT t = true := by
      unfold goodT at hv
      rw [Bool.and_eq_true] at hv
      exact hv.2
    have HEls := Lib.hid (fun (W : World) (hW : Below w.heap.size w W) => refElements_any A n c t s W (h.up hW).arr hvT (by omega))
    have hln := elsT_len t s
    obtain ⟨els, hels⟩ : ∃ els, elsT t s = els := ⟨_, rfl⟩
    rw [hels] at HEls hln ⊢
    clear h hv hG hels hvT
    go_enter Tryz.func20, Tryz.ntmps20
    go_wp2_with fail
    refine HV.out.mono ?_
    rintro e w1 ⟨rfl, k1⟩
    go_wp2_with fail
    refine (HEls.out _ k1).mono ?_
    rintro e w5 ⟨A5, n5, c5, rfl, hE5, k5⟩
    have b5 := below_next k1 k5
    have HN := Lib.hid hE5.len
    have hn5 : n5 ≤ 1000000 := by have := HN.out; omega
    clear hln
    go_wp2
    go_loopw [5, 7] (fun pv iv_ wr => ∃ (k : Nat) (o : List Nat), k ≤ n5 ∧ iv_ = .int .i64 (k : Int) ∧ Hid (primL (els.take k) = o) ∧ o.length ≤ k ∧ wr.ownsRow w5.heap.size 3 1 pv o.length (o.map nv) ∧ Below w5.heap.size w5 wr) (fun _ iv_ _ => n5 - (intOf iv_).toNat)
    case atStart => exact ⟨0, [], by omega, rfl, Lib.hid rfl, by simp, World.ownsRow_nil _ _ _ _, Below.refl _ _⟩
    case round =>
      obtain ⟨k, o, hk, rfl, HO, hol, hown, hb⟩ := hrel
      have hbs := hb.size
      by_cases hlt : k < n5
      · have t1 : decide ((k : Int) < (n5 : Int)) = true := by simp; omega
        have t1' : decide (k < n5) = true := by simpa using hlt
        have kz : (k : Int) < (n5 : Int) := by omega
        obtain ⟨a0, o0, rfl, hA0, hca⟩ := hE5.some_ ev_len (by decide) (by omega)
        obtain ⟨y, hy⟩ : ∃ y, els[k]? = some y := ⟨_, List.getElem?_eq_getElem (by have := HN.out; omega)⟩
        have c0 : wr.cell? ⟨a0, o0 + k * 3, none⟩ = some (.int .i64 (y.1 : Int)) := (hb.cell (p := ⟨a0, o0 + k * 3, none⟩) hA0).trans (hca k y hy 0 _ rfl)
        have hprim : primL (els.take (k + 1)) = primL (els.take k) ++ primL [y] := by rw [take_next hy, prim_app]
        obtain ⟨p, sc, te⟩ := y
        simp only at c0 hprim
        by_cases hp : p = 0
        · subst hp
          have HO2 : Hid (primL (els.take (k + 1)) = o) := Lib.hid (by rw [hprim, HO.out]; simp [primL])
          have c0' : wr.cell? ⟨a0, o0 + k * 3, none⟩ = some (.int .i64 0) := c0
          clear hca hy hprim c0
          go_wp2
          go_roundw
          case rel => exact ⟨k + 1, o, by omega, by go_num, HO2, by omega, hown, hb⟩
          case measure => simp [intOf]; omega
        · have t2 : ((p : Int) != 0) = true := by simp; omega
          have HO2 : Hid (primL (els.take (k + 1)) = o ++ [p]) := Lib.hid (by rw [hprim, HO.out]; simp [primL, beq_false hp])
          have hol1 : o.length ≤ 1000000000000 - 1 := by omega
          clear hca hy hprim hp
          go_wp2_with (at_builtin; refine append_int wr rfl (.tmp 27) (.tmp 33) rfl w5.heap.size u5 o rfl hown p _ rfl rfl (by omega) hbs ?_; intro v7 w7 hown7 hb7)
          go_wp2
          go_roundw
          case rel => exact ⟨k + 1, o ++ [p], by omega, by go_num, HO2, by rw [List.length_append]; simp; omega, hown7, hb.trans hb7⟩
          case measure => simp [intOf]; omega
      · obtain rfl : k = n5 := by omega
        have t1 : decide ((k : Int) < (k : Int)) = false := by simp
        have t1' : decide (k < k) = false := by simp
        have HE : Hid (primL els = o) := Lib.hid (by have h5 := HO.out; rwa [List.take_of_length_le (by rw [HN.out]; exact Nat.le_refl _)] at h5)
        have hA := Arr.of_own hown
        obtain ⟨A7, c7, h7⟩ := hA.form
        subst h7
        have HA := Lib.hid hA
        clear hA
        go_wp2
        go_ret
        rw [HE.out]
        exact ⟨_, _, _, rfl, HA.out, below_next b5 hb⟩

end Go.Proofs.YtafnjbmeponobaaGreatDoor
