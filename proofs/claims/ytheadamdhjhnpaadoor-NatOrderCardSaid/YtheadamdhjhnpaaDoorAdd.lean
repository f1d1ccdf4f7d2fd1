/-
  The program's addMultiple.
-/
import Derived.Test.YtheadamdhjhnpaaDoorNatMath
namespace Go.Proofs.YtheadamdhjhnpaaDoor
open Go.RowKit

theorem drop_cons {D : List Nat} {k d : Nat} (h : D[k]? = some d) : D.drop k = d :: D.drop (k + 1) := by
  obtain ⟨hl, he⟩ := List.getElem?_eq_some_iff.1 h
  rw [List.drop_eq_getElem_cons hl, he]
/-- Cells with digits in the middle. -/
def cellsV (pre : List Value) (D : List Nat) (post : List Value) : Array Value := (pre ++ (D.map nv ++ post)).toArray
theorem cellsV_of (pre D post : List Nat) : cellsOf (pre ++ (D ++ post)) = cellsV (pre.map nv) D (post.map nv) := by simp [cellsOf, cellsV]
theorem seg_at {pre post : List Value} {ds D : List Nat} {off k d : Nat} (hp : pre.length = off) (hk : ds.length = k) (hd : D[k]? = some d) : (cellsV pre (ds ++ D.drop k) post)[off + k]? = some (nv d) := by
  subst hp hk
  unfold cellsV
  rw [List.getElem?_toArray, List.getElem?_append_right (by omega), Nat.add_sub_cancel_left, List.map_append, List.append_assoc, List.getElem?_append_right (by simp), List.length_map, Nat.sub_self, drop_cons hd]
  rfl
theorem seg_set {pre post : List Value} {ds D : List Nat} {off k d : Nat} (hp : pre.length = off) (hk : ds.length = k) (hd : D[k]? = some d) (x : Nat) : (cellsV pre (ds ++ D.drop k) post).setIfInBounds (off + k) (nv x) = cellsV pre ((ds ++ [x]) ++ D.drop (k + 1)) post := by
  subst hp hk
  unfold cellsV
  rw [List.setIfInBounds_toArray, List.set_append_right _ _ (by omega), Nat.add_sub_cancel_left, List.map_append, List.append_assoc, List.set_append_right _ _ (by simp), List.length_map, Nat.sub_self, drop_cons hd]
  simp
theorem grown_set {w : World} {g i : Nat} {v : Value} : w.grownBy (w.setCell ⟨g, i, none⟩ v) (some g) :=
  ⟨(by first | rfl | simp), (by first | rfl | simp), (by first | rfl | simp), Nat.le_of_eq (by simp), fun j _ hne => Below.heap_setCell w ⟨g, i, none⟩ v j (fun e => hne (by rw [e]))⟩
theorem grown_drewN {w : World} {g : Nat} (n : Nat) : w.grownBy (w.drewN n) (some g) := ⟨rfl, rfl, rfl, Nat.le_refl _, fun _ _ _ => rfl⟩
theorem below_only {B g : Nat} {a b c : World} (h : Below B a b) (k : b.grownBy c (some g)) (hg : B ≤ g) (hB : B ≤ a.heap.size) : Below B a c :=
  below_grown h k hB (by intro x hx; injection hx with hx; omega)
theorem Arr.grown {α : Type} {val : α → Value} {w w' : World} {B g : Nat} {v : Value} {xs : List α} (h : Arr val w B v xs) (hk : w.grownBy w' (some g)) (hB : B ≤ g) (hB2 : B ≤ w.heap.size) : Arr val w' B v xs :=
  h.below (below_only (Below.refl B w) hk hB hB2)

theorem and_mask (z : Int) : bits .and .i64 z 65535 = z % 65536 := by
  show IntKind.i64.wrap ((BitVec.ofInt 64 z &&& BitVec.ofInt 64 65535).toNat : Int) = _
  rw [BitVec.toNat_and, BitVec.toNat_ofInt, show (BitVec.ofInt 64 65535).toNat = 2 ^ 16 - 1 from by decide, Nat.and_two_pow_sub_one_eq_mod, wraps_i64 _ (by omega) (by omega)]
  omega
theorem digit_value {z : Int} {u : Int} (h : u = z) : Value.int .i64 (bits .and .i64 u 65535) = nv (z % 65536).toNat := by
  subst h
  rw [and_mask]
  exact value_int (by omega)

set_option maxHeartbeats 1600000 in
theorem addMulV_any (g off n c : Nat) (A' : Option Addr) (n' c' : Nat) (pre post : List Value) (D m : List Nat) (f : Int) (w : World) (hb : Box w g 3 (cellsV pre D post)) (hoff : pre.length = off) (hn : D.length = n) (hD : Dig D)
    (hm : Arr nv w g (.slice A' n' c') m) (hmd : Dig m) (hmn : n' ≤ n) (hf : -65536 ≤ f ∧ f ≤ 65536) (hlen : n ≤ 100000) (_hlen2 : off ≤ 100000) (hnc : n ≤ c) :
    Calls Tryd.prog 49 #[.slice (some ⟨g, off, none⟩) n c, .slice A' n' c', .int .i64 f] w fun e w' =>
      ∃ (cy : Int) (ds : List Nat), e = .returned (.int .i64 cy) ∧ AddEnd D m f cy ds ∧ Box w' g 3 (cellsV pre ds post) ∧ w.grownBy w' (some g) := by
  have HM := Lib.hid hm.len
  have HN := Lib.hid hn
  have HO := Lib.hid hoff
  go_enter Tryd.func49, Tryd.ntmps49
  go_wp2
  go_loopw [7, 8, 11] (fun cy _ j wr => ∃ (k : Nat) (y : Int) (ds : List Nat), k ≤ n ∧ j = .int .i64 (k : Int) ∧ cy = .int .i64 y ∧ AddM D m f k y ds ∧ Box wr g 3 (cellsV pre (ds ++ D.drop k) post) ∧ w.grownBy wr (some g)) (fun _ _ j _ => n - (intOf j).toNat)
  case atStart => exact ⟨0, 0, [], by omega, rfl, rfl, AddM.start D m f, hb, grown_refl _ _⟩
  case round =>
    obtain ⟨k, y, ds, hk, rfl, rfl, hst, hbox, hgr⟩ := hrel
    have hds := hst.1
    have hy := hst.2.2.1
    by_cases hlt : k < n
    · have t1 : decide ((k : Int) < (n : Int)) = true := by simp; omega
      obtain ⟨d, hdt⟩ : ∃ d, D[k]? = some d := ⟨_, List.getElem?_eq_getElem (by have := HN.out; omega)⟩
      have hdl := hD.at_ hdt
      have hat := seg_at (pre := pre) (post := post) HO.out hds hdt
      have d0 := hbox.cell (off + k)
      rw [hat] at d0
      simp only [nv] at d0
      have hfz := hbox.free (off + k)
      have i0 : (k : Int) < (n : Int) := by omega
      have s0 : IntKind.i64.wrap (y + (d : Int)) = y + (d : Int) := wraps_i64 _ (by omega) (by omega)
      by_cases hb2 : k < n'
      · have t2 : decide ((k : Int) < (n' : Int)) = true := by simp; omega
        have i1 : (k : Int) < (n' : Int) := by omega
        have hms := hm.grown hgr (Nat.le_refl _) (Nat.le_of_lt hb.lt)
        obtain ⟨b1, o1, rfl, hB1, hc1⟩ := hms.some_ (by omega)
        obtain ⟨b, hbt⟩ : ∃ a, m[k]? = some a := ⟨_, List.getElem?_eq_getElem (by have := HM.out; omega)⟩
        have d1 := hc1 k b hbt
        have hbl := hmd.at_ hbt
        have hbd := mul_bound hf hbl
        obtain ⟨x, hx⟩ : ∃ x : Int, x = f * (b : Int) := ⟨_, rfl⟩
        rw [← hx] at hbd
        simp only [nv] at d1
        have s1 : IntKind.i64.wrap x = x := wraps_i64 _ (by omega) (by omega)
        have s2 : IntKind.i64.wrap (y + (d : Int) + x) = y + (d : Int) + x := wraps_i64 _ (by omega) (by omega)
        have HS := Lib.hid (hst.step hD hdt x (by rw [hx]; exact addm_in f hbt) hbd)
        have HSet := Lib.hid (seg_set (pre := pre) (post := post) HO.out hds hdt ((y + d + x) % 65536).toNat)
        clear hc1 hbt hms
        go_wp2
        go_roundw
        case rel =>
          have hv : Value.int .i64 (bits .and .i64 (y + (d : Int) + f * (b : Int)) 65535) = nv ((y + (d : Int) + x) % 65536).toNat := digit_value (by rw [hx])
          rw [hv]
          refine ⟨k + 1, _, _, by omega, by go_num, by rw [← hx], HS.out, ?_, grown_trans hgr grown_set⟩
          rw [← HSet.out]
          exact hbox.put _ _
        case measure => simp [intOf]; omega
      · have t2 : decide ((k : Int) < (n' : Int)) = false := by simp; omega
        have HS := Lib.hid (hst.step hD hdt 0 (addm_out f (by have := HM.out; omega)) (by omega))
        have HSet := Lib.hid (seg_set (pre := pre) (post := post) HO.out hds hdt ((y + d + 0) % 65536).toNat)
        go_wp2
        go_roundw
        case rel =>
          have hv : Value.int .i64 (bits .and .i64 (y + (d : Int)) 65535) = nv ((y + (d : Int) + 0) % 65536).toNat := digit_value (by rw [Int.add_zero])
          rw [hv]
          refine ⟨k + 1, _, _, by omega, by go_num, by rw [Int.add_zero], HS.out, ?_, grown_trans hgr grown_set⟩
          rw [← HSet.out]
          exact hbox.put _ _
        case measure => simp [intOf]; omega
    · obtain rfl : k = n := by omega
      have HE := Lib.hid (hst.done HN.out (by have := HM.out; omega))
      have HB := Lib.hid hbox
      clear hst hbox
      go_wp2
      go_ret
      refine ⟨y, ds, rfl, HE.out, ?_, hgr⟩
      have := HB.out
      rw [List.drop_of_length_le (by have := HN.out; omega), List.append_nil] at this
      exact this

theorem addMul_any (g off n c : Nat) (A' : Option Addr) (n' c' : Nat) (pre D post m : List Nat) (f : Int) (w : World) (hb : Box w g 3 (cellsOf (pre ++ (D ++ post)))) (hoff : pre.length = off) (hn : D.length = n) (hD : Dig D)
    (hm : Arr nv w g (.slice A' n' c') m) (hmd : Dig m) (hmn : n' ≤ n) (hf : -65536 ≤ f ∧ f ≤ 65536) (hlen : n ≤ 100000) (hlen2 : off ≤ 100000) (hnc : n ≤ c) :
    Calls Tryd.prog 49 #[.slice (some ⟨g, off, none⟩) n c, .slice A' n' c', .int .i64 f] w fun e w' =>
      ∃ (cy : Int) (ds : List Nat), e = .returned (.int .i64 cy) ∧ AddEnd D m f cy ds ∧ Box w' g 3 (cellsOf (pre ++ (ds ++ post))) ∧ w.grownBy w' (some g) := by
  rw [cellsV_of] at hb
  refine (addMulV_any g off n c A' n' c' (pre.map nv) (post.map nv) D m f w hb (by rw [List.length_map]; exact hoff) hn hD hm hmd hmn hf hlen hlen2 hnc).mono ?_
  rintro e w' ⟨cy, ds, h1, h2, h3, h4⟩
  rw [← cellsV_of] at h3
  exact ⟨cy, ds, h1, h2, h3, h4⟩

end Go.Proofs.YtheadamdhjhnpaaDoor
