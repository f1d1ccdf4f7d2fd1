/-
  The program's takeGroup, slices.Reverse at bytes, strings.TrimLeft at one sign.
-/
import Derived.Test.YtheadamdhjhnpaaDoorNatPow
namespace Go.Proofs.YtheadamdhjhnpaaDoor
open Go.RowKit

theorem cellsV_nil (L : List Nat) (post : List Value) : cellsV [] L post = (L.map nv ++ post).toArray := by simp [cellsV]
theorem mix_at {l M : List Nat} {post : List Value} {k d : Nat} (h : l[k]? = some d) : (cellsV [] (l.take (k + 1) ++ M) post)[k]? = some (nv d) := by
  have hk := (List.getElem?_eq_some_iff.1 h).1
  rw [cellsV_nil, List.getElem?_toArray, List.getElem?_append_left (by simp; omega), List.getElem?_map, List.getElem?_append_left (by simp; omega), List.getElem?_take, if_pos (by omega), h]
  rfl
theorem mix_set {l M : List Nat} {post : List Value} {k d x : Nat} (h : l[k]? = some d) (hx : M[k]? = some x) : (cellsV [] (l.take (k + 1) ++ M.drop (k + 1)) post).setIfInBounds k (nv x) = cellsV [] (l.take k ++ M.drop k) post := by
  have hk := (List.getElem?_eq_some_iff.1 h).1
  have hlen : (l.take k).length = k := by rw [List.length_take]; omega
  rw [cellsV_nil, cellsV_nil, List.setIfInBounds_toArray, take_next h, drop_cons hx, List.map_append, List.map_append, List.append_assoc, List.append_assoc, List.set_append_right _ _ (by rw [List.length_map, hlen]; exact Nat.le_refl _), List.length_map, hlen, Nat.sub_self]
  simp

set_option maxHeartbeats 1600000 in
theorem takeGroup_any (g n c : Nat) (l : List Nat) (post : List Value) (w : World) (hb : Box w g 3 (cellsV [] l post)) (hn : l.length = n) (hl : Dig l) (hlen : n ≤ 1000) :
    Calls Tryd.prog 60 #[.slice (some ⟨g, 0, none⟩) n c] w fun e w' => e = .returned (.int .i64 ((vl l % 1000000000 : Nat) : Int)) ∧ Box w' g 3 (cellsV [] (divQL 1000000000 l) post) ∧ w.grownBy w' (some g) := by
  have HN := Lib.hid hn
  have hM := divQL_length 1000000000 l
  rw [hn] at hM
  have HM := Lib.hid hM
  clear hn hM
  go_enter Tryd.func60, Tryd.ntmps60
  go_wp2
  go_loopw [3, 4, 5, 8] (fun r _ _ i wr => ∃ j k x : Nat, k + j = n ∧ i = .int .i64 (j : Int) ∧ r = .int .i64 (x : Int) ∧ x < 1000000000 ∧ Hid (vl (l.drop k) % 1000000000 = x) ∧ Box wr g 3 (cellsV [] (l.take k ++ (divQL 1000000000 l).drop k) post) ∧ w.grownBy wr (some g)) (fun _ _ _ i _ => n - (intOf i).toNat)
  case atStart => exact ⟨0, n, 0, by omega, rfl, rfl, by omega, Lib.hid (by rw [List.drop_of_length_le (by have := HN.out; omega)]; rfl), by rw [List.take_of_length_le (by have := HN.out; omega), List.drop_of_length_le (by have := HM.out; omega), List.append_nil]; exact hb, grown_refl _ _⟩
  case round =>
    obtain ⟨j, k, x, hk, rfl, rfl, hx, HX, hbox, hgr⟩ := hrel
    cases k with
    | zero =>
      obtain rfl : j = n := by omega
      have HE : Hid (vl l % 1000000000 = x) := Lib.hid (by have := HX.out; rwa [List.drop_zero] at this)
      have HB := Lib.hid hbox
      clear hbox
      go_wp2
      go_ret
      refine ⟨ret_int (by rw [HE.out]), ?_, hgr⟩
      have := HB.out
      rw [List.take_zero, List.nil_append, List.drop_zero] at this
      exact this
    | succ k =>
      obtain ⟨d, hdt⟩ : ∃ d, l[k]? = some d := ⟨_, List.getElem?_eq_getElem (by have := HN.out; omega)⟩
      have hd := hl.at_ hdt
      have hat := mix_at (M := (divQL 1000000000 l).drop (k + 1)) (post := post) hdt
      have d0 := hbox.cell k
      rw [hat] at d0
      simp only [nv] at d0
      have hfz := hbox.free k
      have hq := divQL_at 1000000000 l k d hdt
      rw [HX.out] at hq
      have HSet := Lib.hid (mix_set (post := post) hdt hq)
      have HX2 : Hid (vl (l.drop k) % 1000000000 = (x * 65536 + d) % 1000000000) := Lib.hid (by rw [vl_drop1 hdt]; exact rem_step HX.out)
      have i0 : (j : Int) < (n : Int) := by omega
      have i1 : (n : Int) - 1 - (j : Int) = (k : Int) := by omega
      have s1 : IntKind.i64.wrap ((n : Int) - 1) = (n : Int) - 1 := wraps_i64 _ (by omega) (by omega)
      have s2 : IntKind.i64.wrap ((n : Int) - 1 - (j : Int)) = (k : Int) := by rw [i1]; exact wraps_i64 _ (by omega) (by omega)
      have i2 : (k : Int) < (n : Int) := by omega
      clear hdt hat hq
      go_wp2
      go_roundw
      case rel =>
        have hv : Value.int .i64 (((x : Int) * 65536 + (d : Int)) / 1000000000) = nv ((x * 65536 + d) / 1000000000) := value_int (by omega)
        rw [hv]
        refine ⟨j + 1, k, (x * 65536 + d) % 1000000000, by omega, by go_num, by go_num, by omega, HX2, ?_, grown_trans hgr grown_set⟩
        rw [← HSet.out]
        exact hbox.put _ _
      case measure => simp [intOf]; omega

end Go.Proofs.YtheadamdhjhnpaaDoor
