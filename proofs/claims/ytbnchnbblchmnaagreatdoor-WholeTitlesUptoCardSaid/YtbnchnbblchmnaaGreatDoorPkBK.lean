/-
  The program's weights of letters.
  The library's DeleteFunc over the program's isMark, and Equal; the program's Strip, Marks, Equal.
  The program's Strip, Marks, Equal.
  The program's longest: the letter with the longest Text.
-/
import Derived.Test.YtbnchnbblchmnaaGreatDoorPkAM
import Derived.Test.YtbnchnbblchmnaaGreatDoorPkBF
import Derived.Test.YtbnchnbblchmnaaGreatDoorPkAW
import Derived.Lib.SliceRun
import Derived.Test.YtbnchnbblchmnaaGreatDoorPkAY
import Derived.Lib.MinMax
import Derived.BigQuiet
import Derived.Deep.LoopGhost
namespace Go.Proofs.YtbnchnbblchmnaaGreatDoor
open Go.RowKit

def lwI (x : Int) : Int :=
  if 945 ≤ x ∧ x ≤ 969 then 50000 + 100 * (x - 945)
  else if 1072 ≤ x ∧ x ≤ 1103 then 60000 + 200 * (x - 1072)
  else if x = 1108 then 61100 else if x = 1110 then 61700 else if x = 1169 then 60700 else 30000 + 100 * (x - 97)

set_option maxRecDepth 20000 in
set_option maxHeartbeats 1600000 in
theorem prOneIf_any (b : Bool) (w : World) : Calls Tryz.prog 71 #[.bool b] w fun e w' => e = .returned (.int .i64 (if b = true then 1 else 2)) ∧ w = w' := by
  cases b
  · show Calls Tryz.prog _ _ w fun e w' => e = .returned (.int .i64 2) ∧ w = w'
    go_enter Tryz.func71, Tryz.ntmps71
    go_wp2
    go_ret
    exact ⟨rfl, rfl⟩
  · show Calls Tryz.prog _ _ w fun e w' => e = .returned (.int .i64 1) ∧ w = w'
    go_enter Tryz.func71, Tryz.ntmps71
    go_wp2
    go_ret
    exact ⟨rfl, rfl⟩

set_option maxRecDepth 20000 in
set_option maxHeartbeats 1600000 in
theorem prBehind_5 (w : World) : Calls Tryz.prog 113 #[.int .i64 5] w fun e w' => e = .returned (.int .i64 61100) ∧ w = w' := by
  go_enter Tryz.func113, Tryz.ntmps113
  go_wp2
  go_ret
  exact ⟨rfl, rfl⟩

set_option maxRecDepth 20000 in
set_option maxHeartbeats 1600000 in
theorem prBehind_8 (w : World) : Calls Tryz.prog 113 #[.int .i64 8] w fun e w' => e = .returned (.int .i64 61700) ∧ w = w' := by
  go_enter Tryz.func113, Tryz.ntmps113
  go_wp2
  go_ret
  exact ⟨rfl, rfl⟩

set_option maxRecDepth 20000 in
set_option maxHeartbeats 1600000 in
theorem prBehind_3 (w : World) : Calls Tryz.prog 113 #[.int .i64 3] w fun e w' => e = .returned (.int .i64 60700) ∧ w = w' := by
  go_enter Tryz.func113, Tryz.ntmps113
  go_wp2
  go_ret
  exact ⟨rfl, rfl⟩

set_option maxRecDepth 20000 in
set_option maxHeartbeats 1600000 in
theorem prWt_a (x : Int) (w : World) (h1 : 945 ≤ x) (h2 : x ≤ 969) : Calls Tryz.prog 74 #[.int .i64 x] w fun e w' => e = .returned (.int .i64 (50000 + 100 * (x - 945))) ∧ w = w' := by
  have g945 : decide ((945:Int) ≤ x) = true := by simp; omega
  have g969 : decide (x ≤ 969) = true := by simp; omega
  have s1 : IntKind.i64.wrap (x - 945) = x - 945 := wraps_i64 _ (by omega) (by omega)
  have s2 : IntKind.i64.wrap (100 * (x - 945)) = 100 * (x - 945) := wraps_i64 _ (by omega) (by omega)
  have s3 : IntKind.i64.wrap (50000 + 100 * (x - 945)) = 50000 + 100 * (x - 945) := wraps_i64 _ (by omega) (by omega)
  go_enter Tryz.func74, Tryz.ntmps74
  go_wp2
  go_ret
  exact ⟨rfl, rfl⟩

set_option maxRecDepth 20000 in
set_option maxHeartbeats 1600000 in
theorem prWt_b (x : Int) (w : World) (h1 : 1072 ≤ x) (h2 : x ≤ 1103) : Calls Tryz.prog 74 #[.int .i64 x] w fun e w' => e = .returned (.int .i64 (60000 + 200 * (x - 1072))) ∧ w = w' := by
  have g945 : decide ((945:Int) ≤ x) = true := by simp; omega
  have g969 : decide (x ≤ 969) = false := by simp; omega
  have g1072 : decide ((1072:Int) ≤ x) = true := by simp; omega
  have g1103 : decide (x ≤ 1103) = true := by simp; omega
  have s1 : IntKind.i64.wrap (x - 1072) = x - 1072 := wraps_i64 _ (by omega) (by omega)
  have s2 : IntKind.i64.wrap (200 * (x - 1072)) = 200 * (x - 1072) := wraps_i64 _ (by omega) (by omega)
  have s3 : IntKind.i64.wrap (60000 + 200 * (x - 1072)) = 60000 + 200 * (x - 1072) := wraps_i64 _ (by omega) (by omega)
  go_enter Tryz.func74, Tryz.ntmps74
  go_wp2
  go_ret
  exact ⟨rfl, rfl⟩

set_option maxRecDepth 20000 in
set_option maxHeartbeats 1600000 in
theorem prWt_lo (x : Int) (w : World) (h1 : 0 ≤ x) (h2 : x < 945) : Calls Tryz.prog 74 #[.int .i64 x] w fun e w' => e = .returned (.int .i64 (30000 + 100 * (x - 97))) ∧ w = w' := by
  have g945 : decide ((945:Int) ≤ x) = false := by simp; omega
  have g1072 : decide ((1072:Int) ≤ x) = false := by simp; omega
  have q1108 : (x == 1108) = false := by simp; omega
  have q1110 : (x == 1110) = false := by simp; omega
  have q1169 : (x == 1169) = false := by simp; omega
  have s1 : IntKind.i64.wrap (x - 97) = x - 97 := wraps_i64 _ (by omega) (by omega)
  have s2 : IntKind.i64.wrap (100 * (x - 97)) = 100 * (x - 97) := wraps_i64 _ (by omega) (by omega)
  have s3 : IntKind.i64.wrap (30000 + 100 * (x - 97)) = 30000 + 100 * (x - 97) := wraps_i64 _ (by omega) (by omega)
  go_enter Tryz.func74, Tryz.ntmps74
  go_wp2
  go_ret
  exact ⟨rfl, rfl⟩

set_option maxRecDepth 20000 in
set_option maxHeartbeats 1600000 in
theorem prWt_mid (x : Int) (w : World) (h1 : 969 < x) (h2 : x < 1072) : Calls Tryz.prog 74 #[.int .i64 x] w fun e w' => e = .returned (.int .i64 (30000 + 100 * (x - 97))) ∧ w = w' := by
  have g945 : decide ((945:Int) ≤ x) = true := by simp; omega
  have g969 : decide (x ≤ 969) = false := by simp; omega
  have g1072 : decide ((1072:Int) ≤ x) = false := by simp; omega
  have q1108 : (x == 1108) = false := by simp; omega
  have q1110 : (x == 1110) = false := by simp; omega
  have q1169 : (x == 1169) = false := by simp; omega
  have s1 : IntKind.i64.wrap (x - 97) = x - 97 := wraps_i64 _ (by omega) (by omega)
  have s2 : IntKind.i64.wrap (100 * (x - 97)) = 100 * (x - 97) := wraps_i64 _ (by omega) (by omega)
  have s3 : IntKind.i64.wrap (30000 + 100 * (x - 97)) = 30000 + 100 * (x - 97) := wraps_i64 _ (by omega) (by omega)
  go_enter Tryz.func74, Tryz.ntmps74
  go_wp2
  go_ret
  exact ⟨rfl, rfl⟩

set_option maxRecDepth 20000 in
set_option maxHeartbeats 1600000 in
theorem prWt_hi (x : Int) (w : World) (h1 : 1103 < x) (h2 : x ≤ 1000000) (n1 : x ≠ 1108) (n2 : x ≠ 1110) (n3 : x ≠ 1169) : Calls Tryz.prog 74 #[.int .i64 x] w fun e w' => e = .returned (.int .i64 (30000 + 100 * (x - 97))) ∧ w = w' := by
  have g945 : decide ((945:Int) ≤ x) = true := by simp; omega
  have g969 : decide (x ≤ 969) = false := by simp; omega
  have g1072 : decide ((1072:Int) ≤ x) = true := by simp; omega
  have g1103 : decide (x ≤ 1103) = false := by simp; omega
  have q1108 : (x == 1108) = false := by simp; omega
  have q1110 : (x == 1110) = false := by simp; omega
  have q1169 : (x == 1169) = false := by simp; omega
  have s1 : IntKind.i64.wrap (x - 97) = x - 97 := wraps_i64 _ (by omega) (by omega)
  have s2 : IntKind.i64.wrap (100 * (x - 97)) = 100 * (x - 97) := wraps_i64 _ (by omega) (by omega)
  have s3 : IntKind.i64.wrap (30000 + 100 * (x - 97)) = 30000 + 100 * (x - 97) := wraps_i64 _ (by omega) (by omega)
  go_enter Tryz.func74, Tryz.ntmps74
  go_wp2
  go_ret
  exact ⟨rfl, rfl⟩

set_option maxRecDepth 20000 in
set_option maxHeartbeats 1600000 in
theorem prWt_1108 (w : World) : Calls Tryz.prog 74 #[.int .i64 1108] w fun e w' => e = .returned (.int .i64 61100) ∧ w = w' := by
  have HB := Lib.hid (prBehind_5 w)
  go_enter Tryz.func74, Tryz.ntmps74
  go_wp2_with fail
  refine HB.out.mono ?_
  rintro e w1 ⟨rfl, rfl⟩
  go_wp2
  go_ret
  exact ⟨rfl, rfl⟩

set_option maxRecDepth 20000 in
set_option maxHeartbeats 1600000 in
theorem prWt_1110 (w : World) : Calls Tryz.prog 74 #[.int .i64 1110] w fun e w' => e = .returned (.int .i64 61700) ∧ w = w' := by
  have HB := Lib.hid (prBehind_8 w)
  go_enter Tryz.func74, Tryz.ntmps74
  go_wp2_with fail
  refine HB.out.mono ?_
  rintro e w1 ⟨rfl, rfl⟩
  go_wp2
  go_ret
  exact ⟨rfl, rfl⟩

set_option maxRecDepth 20000 in
set_option maxHeartbeats 1600000 in
theorem prWt_1169 (w : World) : Calls Tryz.prog 74 #[.int .i64 1169] w fun e w' => e = .returned (.int .i64 60700) ∧ w = w' := by
  have HB := Lib.hid (prBehind_3 w)
  go_enter Tryz.func74, Tryz.ntmps74
  go_wp2_with fail
  refine HB.out.mono ?_
  rintro e w1 ⟨rfl, rfl⟩
  go_wp2
  go_ret
  exact ⟨rfl, rfl⟩

theorem prWeight_any (x : Int) (w : World) (h0 : 0 ≤ x) (h1 : x ≤ 1000000) : Calls Tryz.prog 74 #[.int .i64 x] w fun e w' => e = .returned (.int .i64 (lwI x)) ∧ w = w' := by
  unfold lwI
  by_cases a : 945 ≤ x ∧ x ≤ 969
  · rw [if_pos a]; exact prWt_a x w a.1 a.2
  rw [if_neg a]
  by_cases b : 1072 ≤ x ∧ x ≤ 1103
  · rw [if_pos b]; exact prWt_b x w b.1 b.2
  rw [if_neg b]
  by_cases c : x = 1108
  · subst c; rw [if_pos rfl]; exact prWt_1108 w
  rw [if_neg c]
  by_cases d : x = 1110
  · subst d; rw [if_pos rfl]; exact prWt_1110 w
  rw [if_neg d]
  by_cases e : x = 1169
  · subst e; rw [if_pos rfl]; exact prWt_1169 w
  rw [if_neg e]
  by_cases f : x < 945
  · exact prWt_lo x w h0 f
  by_cases g : x < 1072
  · exact prWt_mid x w (by omega) g
  · exact prWt_hi x w (by omega) h1 c d e

/-! The weights of the document. -/
def lwN (x : Nat) : Nat :=
  if (Nat.ble 945 x && Nat.ble x 969) = true then 50000 + 100 * (x - 945)
  else if (Nat.ble 1072 x && Nat.ble x 1103) = true then 60000 + 200 * (x - 1072)
  else if Nat.beq x 1108 = true then 61100 else if Nat.beq x 1110 = true then 61700 else if Nat.beq x 1169 = true then 60700 else 30000 + 100 * (x - 97)
theorem lw_eq {x : Nat} (h : 97 ≤ x) : lwI (x : Int) = (lwN x : Int) := by
  unfold lwI lwN
  simp only [Bool.and_eq_true, Nat.ble_eq, Nat.beq_eq]
  have e1 : ((945 : Int) ≤ (x : Int) ∧ (x : Int) ≤ 969) ↔ (945 ≤ x ∧ x ≤ 969) := by omega
  have e2 : ((1072 : Int) ≤ (x : Int) ∧ (x : Int) ≤ 1103) ↔ (1072 ≤ x ∧ x ≤ 1103) := by omega
  have e3 : ((x : Int) = 1108) ↔ x = 1108 := by omega
  have e4 : ((x : Int) = 1110) ↔ x = 1110 := by omega
  have e5 : ((x : Int) = 1169) ↔ x = 1169 := by omega
  simp only [e1, e2, e3, e4, e5]
  split
  · omega
  split
  · omega
  split
  · rfl
  split
  · rfl
  split
  · rfl
  · omega
def okWt (c : Nat) : Bool := !(is1 (wholeR c) c) || !Nat.beq (kN c) 1 || (Nat.ble 97 (lowN c) && Nat.ble (lowN c) 100000 && Nat.ble c 100000 &&
  (if Nat.beq (scN c) 1 = true then elsB (singleL c) (latL c) && ((seaN c).all fun x => Nat.ble 97 x && Nat.ble x 122) && Nat.ble (seaN c).length 3 else elsB (singleL c) [(lwN (lowN c), 1, capN c)]))
theorem chars_wt : (charL.all okWt) = true := by kernel_rfl
def okAf (c : Nat) : Bool := !(Nat.beq (kN c) 1 && is1 (seaN c) c) || (Nat.beq (primOf c) (lwN c) && Nat.ble 97 c)
theorem chars_af : (charL.all okAf) = true := by kernel_rfl
/-- The elements of a letter of a decomposed form. -/
theorem wt_single {c : Nat} (hc : hasN c = true) (hw : wholeR c = [c]) (hk : kN c = 1) : 97 ≤ lowN c ∧ lowN c ≤ 100000 ∧ c ≤ 100000 ∧
    ((scN c = 1 ∧ singleL c = latL c ∧ (∀ x ∈ seaN c, 97 ≤ x ∧ x ≤ 122) ∧ (seaN c).length ≤ 3) ∨ (scN c ≠ 1 ∧ singleL c = [(lwN (lowN c), 1, capN c)])) := by
  have h := List.all_eq_true.1 chars_wt c ((char_mem c).2 hc)
  unfold okWt at h
  rw [is1_of hw, hk] at h
  simp only [Bool.not_true, Bool.false_or, beq_true] at h
  simp only [Bool.and_eq_true, Nat.ble_eq] at h
  obtain ⟨⟨⟨h1, h2⟩, h3⟩, h4⟩ := h
  refine ⟨h1, h2, h3, ?_⟩
  by_cases hs : scN c = 1
  · rw [if_pos (beq_of hs)] at h4
    simp only [Bool.and_eq_true, Nat.ble_eq, List.all_eq_true] at h4
    exact .inl ⟨hs, els_eq h4.1.1, h4.1.2, h4.2⟩
  · rw [if_neg (by rw [beq_false hs]; exact Bool.false_ne_true)] at h4
    exact .inr ⟨hs, els_eq h4⟩
theorem af_weight {c : Nat} (h : GoodE c) (hk : kN c = 1) : primOf c = lwN c ∧ 97 ≤ c := by
  have h2 := List.all_eq_true.1 chars_af c ((char_mem c).2 h.has)
  unfold okAf at h2
  rw [is1_of (good_sea h), hk] at h2
  simp only [beq_true, Bool.and_true, Bool.not_true, Bool.false_or, Bool.and_eq_true, Nat.ble_eq] at h2
  exact ⟨of_beq h2.1, h2.2⟩

end Go.Proofs.YtbnchnbblchmnaaGreatDoor

namespace Go.Proofs.YtbnchnbblchmnaaGreatDoor
open Go.RowKit

theorem grown_cells {w : World} {g : Nat} : ∀ (vs : List Value) (o : Nat) (w' : World), w.grownBy w' (some g) → w.grownBy (w'.setCells g o vs) (some g)
  | [], _, _, h => h
  | v :: r, o, w', h => by
    rw [World.setCells]
    exact grown_cells r (o + 1) _ (grown_set h o v)
theorem box_cells {g : Nat} {t : TypeId} : ∀ (vs : List Value) (o : Nat) (w : World) (cs : Array Value), Box w g t cs → ∃ cs', Box (w.setCells g o vs) g t cs' ∧ cs'.size = cs.size ∧ cs'.toList.take o = cs.toList.take o
  | [], _, _, cs, h => ⟨cs, h, rfl, rfl⟩
  | v :: r, o, w, cs, h => by
    obtain ⟨cs', h1, h2, h3⟩ := box_cells r (o + 1) _ _ (h.put o v)
    rw [World.setCells]
    refine ⟨cs', h1, by rw [h2]; simp, ?_⟩
    have h4 := congrArg (List.take o) h3
    rw [List.take_take, List.take_take, Nat.min_eq_left (by omega), Array.toList_setIfInBounds, List.take_set, List.set_eq_of_length_le (by rw [List.length_take]; omega)] at h4
    exact h4

/-- Where the first mark stands. -/
def MarkAt (l : List Nat) (k : Nat) : Prop := (∃ x, l[k]? = some x ∧ isM x = true) ∧ ∀ c ∈ l.take k, isM c = false

theorem set_row {cu : Array Value} {N : Nat} {K R : List Nat} {x m i : Nat} (ht : cu.toList.take N = (K ++ m :: R).map nv) (hi : i = K.length) : (cu.setIfInBounds i (nv x)).toList.take N = (K ++ x :: R).map nv := by
  subst hi
  rw [Array.toList_setIfInBounds, List.take_set, ht]
  have h := set_mid (P := K.map nv) (R := R.map nv) (x := nv m) (y := nv x)
  rw [List.length_map] at h
  rw [List.map_append, List.map_cons, h, List.map_append, List.map_cons]

end Go.Proofs.YtbnchnbblchmnaaGreatDoor

namespace Go.Proofs.YtbnchnbblchmnaaGreatDoor
open Go.RowKit

set_option maxRecDepth 20000 in
set_option maxHeartbeats 1600000 in
theorem slEqual_any (A : Option Addr) (n c : Nat) (A' : Option Addr) (n' c' : Nat) (l l' : List Nat) (w : World) (hA : Arr nv w w.heap.size (.slice A n c) l) (hA' : Arr nv w w.heap.size (.slice A' n' c') l') (hn : n ≤ 1000000) (hn' : n' ≤ 1000000) :
    Calls Tryz.prog 72 #[.slice A n c, .slice A' n' c'] w fun e w' => e = .returned (.bool (decide (l = l'))) ∧ ∃ q, w' = w.drewN q := by
  have HL := Lib.hid hA.len
  have HL' := Lib.hid hA'.len
  obtain ⟨R, hR⟩ : ∃ R, decide (l = l') = R := ⟨_, rfl⟩
  rw [hR]
  have HR := Lib.hid hR
  clear hR
  by_cases hnn : n = n'
  · subst hnn
    have t0 : ((n : Int) != (n : Int)) = false := by simp
    go_enter Tryz.func72, Tryz.ntmps72
    go_wp2
    go_loopw [5, 13] (fun _ i wr => ∃ k q : Nat, k ≤ n ∧ i = .int .i64 (k : Int) ∧ Hid (l.take k = l'.take k) ∧ wr = w.drewN q) (fun _ i _ => n - (intOf i).toNat)
    case atStart => exact ⟨0, 0, by omega, rfl, Lib.hid rfl, rfl⟩
    case round =>
      obtain ⟨k, q, hk, rfl, HT, rfl⟩ := hrel
      by_cases hlt : k < n
      · have i1 : decide ((k : Int) < (n : Int)) = true := by simp; omega
        obtain ⟨b0, o0, rfl, hB0, hc0⟩ := hA.some_ (by omega)
        obtain ⟨b1, o1, rfl, hB1, hc1⟩ := hA'.some_ (by omega)
        obtain ⟨x, hx⟩ := get_some (l := l) (i := k) (by have := HL.out; omega)
        obtain ⟨y, hy⟩ := get_some (l := l') (i := k) (by have := HL'.out; omega)
        have d0 := hc0 k x hx
        have d1 := hc1 k y hy
        simp only [nv] at d0 d1
        have kz : (k : Int) < (n : Int) := by omega
        by_cases hxy : x = y
        · have t1 : ((x : Int) != (y : Int)) = false := by rw [hxy]; simp
          have HT2 : Hid (l.take (k + 1) = l'.take (k + 1)) := Lib.hid (by rw [take_next hx, take_next hy, HT.out, hxy])
          clear hc0 hc1 hx hy hxy
          go_wp2
          go_quiet (fail)
          go_wp2
          go_roundw
          case rel => exact ⟨k + 1, q + nq, by omega, by go_num, HT2, by first | rfl | rw [World.drewN_drewN]⟩
          case measure => simp [intOf]; omega
        · have t1 : ((x : Int) != (y : Int)) = true := by simp; omega
          have HE : Hid (R = false) := Lib.hid (by
            rw [← HR.out]
            refine decide_eq_false fun e => hxy ?_
            rw [e, hy] at hx
            exact (Option.some.inj hx).symm)
          clear hc0 hc1 hx hy hxy
          go_wp2
          go_quiet (fail)
          go_wp2
          go_ret
          rw [HE.out]
          exact ⟨rfl, by first | exact ⟨_, World.drewN_drewN _ _ _⟩ | exact ⟨_, rfl⟩⟩
      · obtain rfl : k = n := by omega
        have HE : Hid (R = true) := Lib.hid (by
          rw [← HR.out]
          have h := HT.out
          rw [List.take_of_length_le (by rw [HL.out]; omega), List.take_of_length_le (by rw [HL'.out]; omega)] at h
          exact decide_eq_true h)
        go_wp2
        go_ret
        rw [HE.out]
        exact ⟨rfl, _, rfl⟩
  · have t0 : ((n : Int) != (n' : Int)) = true := by simp; omega
    have HE : Hid (R = false) := Lib.hid (by
      rw [← HR.out]
      refine decide_eq_false fun e => hnn ?_
      rw [← HL.out, ← HL'.out, e])
    go_enter Tryz.func72, Tryz.ntmps72
    go_wp2
    go_ret
    rw [HE.out]
    exact ⟨rfl, 0, rfl⟩

theorem nEq_dc {s t : List UInt8} (h1 : (decR s).isSome = true) (h2 : (decR t).isSome = true) : nEq s t = decide (dcF (nL s) = dcF (nL t)) := by
  unfold nEq
  rw [h1, h2]
  by_cases h : dcF (nL s) = dcF (nL t)
  · rw [decide_eq_true h]
    have : nD s = nD t := by unfold nD; rw [h]
    rw [decide_eq_true this]
    rfl
  · rw [decide_eq_false h]
    have : ¬ nD s = nD t := fun e => h (nD_inj e)
    rw [decide_eq_false this]
    rfl

end Go.Proofs.YtbnchnbblchmnaaGreatDoor

namespace Go.Proofs.YtbnchnbblchmnaaGreatDoor
open Go.RowKit

/-- A letter as the program keeps it: the characters of its Text, its weight. -/
def tlv (y : Value × Nat) : List Value := [y.1, .int .i64 (y.2 : Int)]
theorem tlv_len (y : Value × Nat) : (tlv y).length = 2 := rfl
/-- The letters of a tailoring as the program keeps them. -/
def Ltt (w : World) (B : Nat) (v : Value) (T : List LetL) : Prop :=
  ∃ ys : List (Value × Nat), SArr 2 tlv w B v ys ∧ ys.length = T.length ∧ ∀ (i : Nat) (y : Value × Nat) (x : LetL), ys[i]? = some y → T[i]? = some x → Arr nv w B y.1 x.1 ∧ y.2 = lwN x.2 + i + 1
theorem Ltt.below {w w' : World} {B : Nat} {v : Value} {T : List LetL} (h : Ltt w B v T) (hb : Below B w w') : Ltt w' B v T := by
  obtain ⟨ys, h1, h2, h3⟩ := h
  exact ⟨ys, h1.below hb, h2, fun i y x hy hx => ⟨(h3 i y x hy hx).1.below hb, (h3 i y x hy hx).2⟩⟩
theorem Ltt.more {w : World} {B B' : Nat} {v : Value} {T : List LetL} (h : Ltt w B v T) (hb : B ≤ B') : Ltt w B' v T := by
  obtain ⟨ys, h1, h2, h3⟩ := h
  exact ⟨ys, h1.more hb, h2, fun i y x hy hx => ⟨(h3 i y x hy hx).1.more hb, (h3 i y x hy hx).2⟩⟩
theorem Ltt.up {W w : World} {v : Value} {T : List LetL} (h : Ltt W W.heap.size v T) (hb : Below W.heap.size W w) : Ltt w w.heap.size v T := (h.below hb).more hb.size

theorem below_putL {w w' : World} {B k i : Nat} (h : Below B w w') (hk : B ≤ k) (v : Value) : Below B w (w'.setCell ⟨k, i, none⟩ v) :=
  ⟨h.os, h.tape, h.output, by rw [World.size_setCell]; exact h.size, fun j hj => (Below.heap_setCell w' ⟨k, i, none⟩ v j (by show j ≠ k; omega)).trans (h.block j hj)⟩

/-! In plain mathematics. -/
/-- Of the Texts that the small letters go on with, none is longer than n. -/
def NoLong (T : List LetL) (small : List Nat) (n : Nat) : Prop := ∀ y ∈ T, small.take y.1.length = y.1 → y.1.length ≤ n
theorem pass_small {ch y : List Nat} : passB ch y = true ↔ (ch.map lowN).take y.length = y := by rw [pass_iff, List.map_take]
theorem long_found {T : List LetL} (hT : LetOk T) {ch : List Nat} {k n : Nat} {x : LetL} (hx : T[k]? = some x) (he : x.1 = (ch.map lowN).take n) (hn : n ≤ ch.length) (h : NoLong T (ch.map lowN) n) : bestC T ch = some (k, x.1.length) := by
  have hl : x.1.length = n := by rw [he, List.length_take, List.length_map]; omega
  refine best_is hx (pass_small.2 (by rw [hl, he])) (hT.size x (List.mem_of_getElem? hx)).1 fun i y hy hp => ?_
  have h1 := h y (List.mem_of_getElem? hy) (pass_small.1 hp)
  rw [hl]
  rcases Nat.lt_or_ge y.1.length n with h2 | h2
  · exact .inr h2
  · refine .inl (hT.dist i k y x hy hx ?_)
    have h3 : y.1.length = n := by omega
    have h4 := pass_small.1 hp
    rw [h3] at h4
    rw [he, h4]
theorem long_none {T : List LetL} {ch : List Nat} (h : NoLong T (ch.map lowN) 0) : bestC T ch = none :=
  best_is_none fun y hy hp => Nat.le_zero.1 (h y hy (pass_small.1 hp))
theorem long_start {T : List LetL} (hT : LetOk T) (small : List Nat) : NoLong T small (min 4 small.length) := by
  intro y hy h
  have h1 := (hT.size y hy).2
  have h2 := congrArg List.length h
  rw [List.length_take] at h2
  omega
/-- None of the first k Texts is what the small letters begin with. -/
def NoHit (T : List LetL) (s : List Nat) (k : Nat) : Prop := ∀ y ∈ T.take k, y.1 ≠ s
theorem noHit_next {T : List LetL} {s : List Nat} {k : Nat} {x : LetL} (h : NoHit T s k) (hx : T[k]? = some x) (hne : x.1 ≠ s) : NoHit T s (k + 1) := by
  intro y hy
  rw [take_next hx] at hy
  rcases List.mem_append.1 hy with hy | hy
  · exact h y hy
  · rw [List.mem_singleton.1 hy]; exact hne
theorem long_next {T : List LetL} {small : List Nat} {n : Nat} (h : NoLong T small (n + 1)) (hh : NoHit T (small.take (n + 1)) T.length) : NoLong T small n := by
  intro y hy hp
  have h1 := h y hy hp
  rcases Nat.lt_or_ge y.1.length (n + 1) with h2 | h2
  · omega
  · exfalso
    have h3 : y.1.length = n + 1 := by omega
    rw [h3] at hp
    exact hh y (by rw [List.take_of_length_le (Nat.le_refl _)]; exact hy) hp.symm
/-- What longest returns. -/
def LongEnd (w : World) (T : List LetL) (ch : List Nat) (v : Value) (p : Int) (ok : Bool) : Prop :=
  (ok = false ∧ bestC T ch = none) ∨ (ok = true ∧ ∃ (k : Nat) (x : LetL), T[k]? = some x ∧ bestC T ch = some (k, x.1.length) ∧ Arr nv w w.heap.size v x.1 ∧ p = ((lwN x.2 + k + 1 : Nat) : Int))

set_option maxRecDepth 100000 in
set_option maxHeartbeats 6400000 in
theorem longest_any (A : Option Addr) (n c : Nat) (A' : Option Addr) (m c' : Nat) (T : List LetL) (ch : List Nat) (w : World) (h : Ltt w w.heap.size (.slice A n c) T) (hA : Arr nv w w.heap.size (.slice A' m c') (ch.map lowN)) (hT : LetOk T) (hm : m ≤ 1000000) :
    Calls Tryz.prog 70 #[.slice A n c, .slice A' m c'] w fun e w' => (∃ Av mv cv p ok, e = .returned (.tuple #[.agg #[.slice Av mv cv, .int .i64 p], .bool ok]) ∧ LongEnd w T ch (.slice Av mv cv) p ok) ∧ Below w.heap.size w w' := by
  obtain ⟨ys, h1, h2, h3⟩ := h
  have hyl := h1.len
  have hT40 := hT.few
  have HTl : Hid (T.length = n) := Lib.hid (by rw [← h2, hyl])
  have HYl : Hid (ys.length = n) := Lib.hid hyl
  have hn40 : n ≤ 40 := by have := HTl.out; omega
  have HT := Lib.hid hT
  have HAl : Hid (ch.length = m) := Lib.hid (by have := hA.len; rwa [List.length_map] at this)
  have H3 := Lib.hid h3
  have HAr := Lib.hid hA
  have hcap := hA.cap
  obtain ⟨N, hN⟩ : ∃ N, min 4 m = N := ⟨_, rfl⟩
  have hmin : min (4 : Int) (m : Int) = (N : Int) := by omega
  have HN : Hid (NoLong T (ch.map lowN) N) := Lib.hid (by have := long_start hT (ch.map lowN); rw [List.length_map, HAl.out, hN] at this; exact this)
  have hNm : N ≤ m := by omega
  have hbd1 : Below w.heap.size w (w.alloc (.cells #[.slice none 0 0, .int .i64 0] 108)) := (Below.refl _ _).alloc (Nat.le_refl _) _
  have hBox0 := Box.made w 108 #[.slice none 0 0, .int .i64 0]
  obtain ⟨wd, hwd⟩ : ∃ wd, w.alloc (.cells #[.slice none 0 0, .int .i64 0] 108) = wd := ⟨_, rfl⟩
  have hsd : wd.heap.size = w.heap.size + 1 := by rw [← hwd]; simp
  rw [hwd] at hbd1 hBox0
  clear hT h3 hyl h2 hT40 hN hA
  go_enter Tryz.func70, Tryz.ntmps70
  go_wp2
  go_step3
  go_wp2
  go_step3
  go_wp2
  go_loopg [5, 6] N (fun g1 s5 s6 wr => s5 = .bool false ∧ s6 = .int .i64 (g1 : Int) ∧ g1 ≤ N ∧ Hid (NoLong T (ch.map lowN) g1) ∧ Box wr w.heap.size 108 #[.slice none 0 0, .int .i64 0] ∧ Below w.heap.size w wr)
  case atStart => exact ⟨rfl, rfl, Nat.le_refl _, HN, hBox0, hbd1⟩
  case round =>
    obtain ⟨rfl, rfl, hgN, HNo, hbox, hb⟩ := hrel
    have hbxl := hbox.lt
    by_cases h0 : gk = 0
    · subst h0
      have HE := Lib.hid (long_none HNo.out)
      have c0 : wr.cell? ⟨w.heap.size, 0, none⟩ = some (.slice none 0 0) := by rw [hbox.cell]; rfl
      have c1 : wr.cell? ⟨w.heap.size, 1, none⟩ = some (.int .i64 0) := by rw [hbox.cell]; rfl
      have f0 : wr.frozen? ⟨w.heap.size, 0, none⟩ = false := hbox.free 0
      have f1 : wr.frozen? ⟨w.heap.size, 1, none⟩ = false := hbox.free 1
      go_wp2
      (try rw [Exit.noGoto_ret])
      refine bodyPost_ret (v := .tuple #[.agg #[.slice none 0 0, .int .i64 0], .bool false]) (by simp [results, Tryz.results70, go_sem, c0, c1]) rfl ?_
      exact ⟨⟨_, _, _, _, _, rfl, .inl ⟨rfl, HE.out⟩⟩, below_putL (below_putL hb (Nat.le_refl _) _) (Nat.le_refl _) _⟩
    · obtain ⟨g2, rfl⟩ : ∃ g2, gk = g2 + 1 := ⟨gk - 1, by omega⟩
      have t0 : decide (((g2 + 1 : Nat) : Int) > 0) = true := by simp
      have hum : g2 + 1 ≤ 4 := by omega
      have hum2 : g2 + 1 ≤ m := by omega
      have hg2N : g2 ≤ N := by omega
      have hg2 : g2 + 1 ≤ c' := by omega
      have HH := Lib.hid (HAr.out.head (show g2 + 1 ≤ m by omega))
      have hsl : ∀ W, (Instr.sliceAt 27 (.slice A' m c') none (some (.int .i64 ((g2 + 1 : Nat) : Int))) none).run Tryz.prog W = .ok (.slice A' (g2 + 1) c') W := fun W => head_ints A' m c' (g2 + 1) hg2 W
      obtain ⟨u, hu⟩ : ∃ u, g2 + 1 = u := ⟨_, rfl⟩
      rw [hu] at HH hsl hg2 t0 HNo hum hum2
      have HU := Lib.hid hu
      have t0' : decide ((0 : Int) < (u : Int)) = true := by simp; omega
      have t0n : decide (0 < u) = true := by simp; omega
      have s1 : IntKind.i64.wrap ((u : Int) - 1) = ((g2 : Nat) : Int) := by rw [wraps_i64 _ (by omega) (by omega)]; omega
      clear h0
      rw [hu] 
      clear hu
      go_wp2
      go_loopg [5, 18] n (fun g3 s5 s18 wi => ∃ k : Nat, k + g3 = n ∧ s5 = .bool false ∧ s18 = .int .i64 (k : Int) ∧ Hid (NoHit T ((ch.map lowN).take u) k) ∧ Box wi w.heap.size 108 #[.slice none 0 0, .int .i64 0] ∧ Below w.heap.size w wi)
      case atStart => exact ⟨0, Nat.zero_add _, rfl, rfl, Lib.hid (fun y hy => by simp at hy), hbox, hb⟩
      case round =>
        clear hbox hb hbxl
        obtain ⟨k, hkg, rfl, rfl, HHit, hbox, hb⟩ := hrel
        have hbxl := hbox.lt
        by_cases hlt : k < n
        · obtain ⟨g4, rfl⟩ : ∃ g4, gk = g4 + 1 := ⟨gk - 1, by omega⟩
          have t1 : decide ((k : Int) < (n : Int)) = true := by simp; omega
          have kz : (k : Int) < (n : Int) := by omega
          obtain ⟨b0, o0, rfl, hB0, hc0⟩ := h1.some_ tlv_len (by decide) (by omega)
          obtain ⟨y, hy⟩ : ∃ y, ys[k]? = some y := ⟨_, List.getElem?_eq_getElem (by have := HYl.out; omega)⟩
          obtain ⟨x, hx⟩ : ∃ x, T[k]? = some x := ⟨_, List.getElem?_eq_getElem (by have := HTl.out; omega)⟩
          have d0 := (hb.cell (p := ⟨b0, o0 + k * 2, none⟩) hB0).trans (hc0 k y hy 0 _ rfl)
          have d1 := (hb.cell (p := ⟨b0, o0 + k * 2 + 1, none⟩) hB0).trans (hc0 k y hy 1 _ rfl)
          obtain ⟨hAy, hpy⟩ := H3.out k y x hy hx
          obtain ⟨yv, p⟩ := y
          obtain ⟨Ay, cy, hyv⟩ := hAy.form
          simp only at hyv hpy d0 d1 hAy
          subst hyv
          have hxl := (HT.out.size x (List.mem_of_getElem? hx)).2
          have HX := Lib.hid hx
          have HAy := Lib.hid hAy
          obtain ⟨ny, hny⟩ : ∃ ny, x.1.length = ny := ⟨_, rfl⟩
          have HNy := Lib.hid hny
          rw [hny] at d0 HAy hxl
          have HP := Lib.hid hpy
          have HE := Lib.hid (fun (W : World) (hW : Below w.heap.size w W) => slEqual_any Ay ny cy A' u c' x.1 ((ch.map lowN).take u) W (HAy.out.up hW) (HH.out.up hW) (by omega) (by omega))
          have hbV : Below w.heap.size w (wr.alloc (.cells #[.slice Ay ny cy, .int .i64 (p : Int)] 108)) := below_new hb _
          have e0 : (wr.alloc (.cells #[.slice Ay ny cy, .int .i64 (p : Int)] 108)).cell? ⟨wr.heap.size, 0, none⟩ = some (.slice Ay ny cy) := by simp
          have e1 : (wr.alloc (.cells #[.slice Ay ny cy, .int .i64 (p : Int)] 108)).cell? ⟨wr.heap.size, 1, none⟩ = some (.int .i64 (p : Int)) := by simp
          have hboxV := hbox.alloc (.cells #[.slice Ay ny cy, .int .i64 (p : Int)] 108)
          have c0 : (wr.alloc (.cells #[.slice Ay ny cy, .int .i64 (p : Int)] 108)).cell? ⟨w.heap.size, 0, none⟩ = some (.slice none 0 0) := by rw [hboxV.cell]; rfl
          have c1 : (wr.alloc (.cells #[.slice Ay ny cy, .int .i64 (p : Int)] 108)).cell? ⟨w.heap.size, 1, none⟩ = some (.int .i64 0) := by rw [hboxV.cell]; rfl
          have f0 : (wr.alloc (.cells #[.slice Ay ny cy, .int .i64 (p : Int)] 108)).frozen? ⟨w.heap.size, 0, none⟩ = false := hboxV.free 0
          have f1 : (wr.alloc (.cells #[.slice Ay ny cy, .int .i64 (p : Int)] 108)).frozen? ⟨w.heap.size, 1, none⟩ = false := hboxV.free 1
          clear hc0 hy hx hAy hny hpy
          obtain ⟨R, hR⟩ : ∃ R, decide (x.1 = (ch.map lowN).take u) = R := ⟨_, rfl⟩
          rw [hR] at HE
          cases R with
          | true =>
            have HF := Lib.hid (long_found HT.out HX.out (of_decide_eq_true hR) (by rw [HAl.out]; exact hum2) HNo.out)
            clear hR
            go_wp2
            go_big_quiet (first | (go_at_call 72; refine (HE.out _ (below_drewN hbV _)).mono ?_; rintro e w7 ⟨rfl, q, rfl⟩; exact ⟨rfl, _, World.drewN_drewN _ _ _⟩))
            go_wp2
            have hF := ((((hboxV.drewN nq).put 0 (.slice Ay ny cy)).put 1 (.int .i64 (p : Int))).put 0 (.slice Ay ny cy)).put 1 (.int .i64 (p : Int))
            have k0 := hF.cell 0
            have k1 := hF.cell 1
            simp only [Array.setIfInBounds, List.size_toArray, List.length_cons, List.length_nil] at k0 k1
            (try rw [Exit.noGoto_ret])
            refine bodyPost_ret (v := .tuple #[.agg #[.slice Ay ny cy, .int .i64 (p : Int)], .bool true]) (by simp [results, Tryz.results70, go_sem, k0, k1]) rfl ?_
            exact ⟨⟨_, _, _, _, _, rfl, .inr ⟨rfl, k, x, HX.out, HF.out, HAy.out, by rw [HP.out]⟩⟩, below_putL (below_putL (below_putL (below_putL (below_drewN hbV _) (Nat.le_refl _) _) (Nat.le_refl _) _) (Nat.le_refl _) _) (Nat.le_refl _) _⟩
          | false =>
            have HHit2 := Lib.hid (noHit_next HHit.out HX.out (of_decide_eq_false hR))
            clear hR
            go_wp2
            go_big_quiet (first | (go_at_call 72; refine (HE.out _ (below_drewN hbV _)).mono ?_; rintro e w7 ⟨rfl, q, rfl⟩; exact ⟨rfl, _, World.drewN_drewN _ _ _⟩))
            go_wp2
            go_roundg g4
            case measure => omega
            case rel => exact ⟨k + 1, by omega, rfl, by go_num, HHit2, hboxV.drewN _, below_drewN hbV _⟩
        · obtain rfl : k = n := by omega
          have t1 : decide ((k : Int) < (k : Int)) = false := by simp
          have t1' : decide (k < k) = false := by simp
          have HNo2 : Hid (NoLong T (ch.map lowN) g2) := Lib.hid (by
            have h5 := HNo.out
            rw [← HU.out] at h5
            refine long_next h5 ?_
            rw [HU.out, HTl.out]
            exact HHit.out)
          go_wp2
          go_roundg g2
          case measure => have := HU.out; omega
          case rel => exact ⟨rfl, rfl, hg2N, HNo2, hbox, hb⟩

end Go.Proofs.YtbnchnbblchmnaaGreatDoor
