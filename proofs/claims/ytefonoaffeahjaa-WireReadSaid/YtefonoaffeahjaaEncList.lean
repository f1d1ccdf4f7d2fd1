/-
  The contracts of wire.Ints and wire.Bool over a row of the call's own.
-/
import Derived.Test.YtefonoaffeahjaaReads
namespace Go.Proofs.Ytefonoaffeahjaa
open Go.RowKit

/-- In w, the slice v reads as the list xs: it is nil, or its elements stand below block B. -/
def Arr {α : Type} (val : α → Value) (w : World) (B : Nat) (v : Value) (xs : List α) : Prop :=
  (v = .slice none 0 0 ∧ xs = []) ∨ ∃ (a : Addr) (c : Nat), v = .slice (some a) xs.length c ∧ xs.length ≤ c ∧ (0 < xs.length → a.block < B) ∧ ∀ i u, xs[i]? = some u → w.cell? (a.add i) = some (val u)

section
variable {α : Type} {val : α → Value}
theorem Arr.keep {w w' : World} {B : Nat} {v : Value} {xs : List α} (h : Arr val w B v xs) (hk : ∀ p : Addr, p.block < B → w'.cell? p = w.cell? p) : Arr val w' B v xs := by
  rcases h with h | ⟨a, c, e, hl, hb, hc⟩
  · exact .inl h
  · exact .inr ⟨a, c, e, hl, hb, fun i u hu => (hk _ (by rw [add_block]; exact hb (by have := (List.getElem?_eq_some_iff.1 hu).1; omega))).trans (hc i u hu)⟩
theorem Arr.below {w w' : World} {B : Nat} {v : Value} {xs : List α} (h : Arr val w B v xs) (hb : Below B w w') : Arr val w' B v xs := h.keep fun _ hp => hb.cell hp
theorem Arr.more {w : World} {B B' : Nat} {v : Value} {xs : List α} (h : Arr val w B v xs) (hB : B ≤ B') : Arr val w B' v xs := by
  rcases h with h | ⟨a, c, e, hl, hb, hc⟩
  · exact .inl h
  · exact .inr ⟨a, c, e, hl, fun h => by have := hb h; omega, hc⟩
theorem Arr.of_own {w : World} {base e : Nat} {v : Value} {xs : List α} (h : w.ownsRow base e 1 v xs.length (xs.map val)) : Arr val w w.heap.size v xs := by
  rcases h.2 with ⟨hv, h0⟩ | ⟨g, cap, cur, hv, _, hg, hc, _, hsz, htake⟩
  · exact .inl ⟨hv, List.length_eq_zero_iff.1 h0⟩
  · refine .inr ⟨_, cap, hv, hc, fun _ => (Array.getElem?_eq_some_iff.1 hg).1, fun i u hu => ?_⟩
    rw [plain_add, Go.cell_of_row w g i cur e (0, 0) hg]
    have hi : i < xs.length := (List.getElem?_eq_some_iff.1 hu).1
    have h2 : (xs.map val)[i]? = some (val u) := by rw [List.getElem?_map, hu]; rfl
    rw [← htake, List.getElem?_take, if_pos (by omega)] at h2
    rw [← Array.getElem?_toList]
    exact h2
/-- An element, with its address written out. -/
theorem Arr.at_ {w : World} {B n c : Nat} {A : Option Addr} {xs : List α} (h : Arr val w B (.slice A n c) xs) {k : Nat} (hk : k < n) :
    ∃ b off u, A = some ⟨b, off, none⟩ ∧ xs[k]? = some u ∧ w.cell? ⟨b, off + k, none⟩ = some (val u) := by
  rcases h with ⟨e, _⟩ | ⟨a, c', e, hl, hb, hc⟩
  · injection e; omega
  · injection e with e1 e2 e3
    subst e1
    have hu : xs[k]? = some (xs[k]'(by omega)) := List.getElem?_eq_getElem (by omega)
    have hcell := hc k _ hu
    obtain ⟨b, off, spot⟩ := a
    have hspot : spot = none := by
      have h0 := hc 0 _ (List.getElem?_eq_getElem (show 0 < xs.length by omega))
      simpa [Addr.add] using World.cell?_spot h0
    subst hspot
    refine ⟨b, off, _, rfl, hu, ?_⟩
    have e : (⟨b, off, none⟩ : Addr).add k = ⟨b, off + k, none⟩ := by unfold Addr.add; split <;> simp_all
    rw [← e]; exact hcell
theorem Arr.len {w : World} {B n c : Nat} {A : Option Addr} {xs : List α} (h : Arr val w B (.slice A n c) xs) : xs.length = n := by
  rcases h with ⟨e, rfl⟩ | ⟨a, c', e, _⟩
  · injection e with _ e2 _; exact e2.symm
  · injection e with _ e2 _; exact e2.symm
theorem Arr.form {w : World} {B : Nat} {v : Value} {xs : List α} (h : Arr val w B v xs) : ∃ A n c, v = .slice A n c := by
  rcases h with ⟨e, rfl⟩ | ⟨a, c, e, _⟩
  · exact ⟨_, _, _, e⟩
  · exact ⟨_, _, _, e⟩
end

theorem encs_take {α : Type} (e : α → List UInt8) (xs : List α) {k : Nat} {u : α} (h : xs[k]? = some u) : encs e (xs.take (k + 1)) = encs e (xs.take k) ++ e u := by
  obtain ⟨hk, hu⟩ := List.getElem?_eq_some_iff.1 h
  rw [List.take_succ_eq_append_getElem hk, encs_append, hu]
  simp [encs]

theorem encs_le {α : Type} (e : α → List UInt8) (xs : List α) (k : Nat) : (encs e (xs.take k)).length ≤ (encs e xs).length := by
  have := congrArg (fun l => (encs e l).length) (List.take_append_drop k xs)
  simp only [encs_append, List.length_append] at this
  omega

theorem encI_bound (n : Int) (h0 : -9223372036854775808 ≤ n) (h1 : n ≤ 9223372036854775807) : (encI n).length ≤ 10 := (enc_bound _ (zig_lt n h0 h1)).2

def encB : Bool → List UInt8
  | true => encI 1
  | false => encI 0

set_option maxHeartbeats 800000 in
theorem bool_own (v : Value) (bs : List UInt8) (t : Bool) (base : Nat) (w : World)
    (hown : w.ownsRow base 5 1 v bs.length (bs.map bv)) (hbase : base ≤ w.heap.size) (hlen : bs.length + 10 ≤ 1000000000000) :
    Calls Try.prog 20 #[v, .bool t] w fun e w' => ∃ v', e = .returned v' ∧ w'.ownsRow base 5 1 v' (bs ++ encB t).length ((bs ++ encB t).map bv) ∧ Below base w w' := by
  cases t with
  | true =>
    go_enter Try.func20, Try.ntmps20
    go_wp2_with fail
    refine (int_own v bs 1 base w (by omega) (by omega) hown hbase hlen).mono ?_
    rintro e w1 ⟨v1, rfl, hown1, hb1⟩
    go_wp2_with fail
    go_ret
    exact ⟨_, rfl, hown1, hb1⟩
  | false =>
    go_enter Try.func20, Try.ntmps20
    go_wp2_with fail
    refine (int_own v bs 0 base w (by omega) (by omega) hown hbase hlen).mono ?_
    rintro e w1 ⟨v1, rfl, hown1, hb1⟩
    go_wp2_with fail
    go_ret
    exact ⟨_, rfl, hown1, hb1⟩

theorem enc_room {α : Type} (e : α → List UInt8) (bs : List UInt8) (xs : List α) (k : Nat) (h : (bs ++ encList e xs).length ≤ 100000000000) : (bs ++ (encI xs.length ++ encs e (xs.take k))).length ≤ 100000000000 := by
  have := encs_le e xs k
  unfold encList at h
  simp only [List.length_append] at h ⊢
  omega

set_option maxHeartbeats 1600000 in
theorem appendInts (v lv : Value) (bs : List UInt8) (xs : List Int) (base : Nat) (w : World) (hx : ∀ x ∈ xs, -9223372036854775808 ≤ x ∧ x ≤ 9223372036854775807)
    (hown : w.ownsRow base 5 1 v bs.length (bs.map bv)) (hl : Arr iv w base lv xs) (hbase : base ≤ w.heap.size) (hlen : (bs ++ encList encI xs).length ≤ 100000000000) (hxl : xs.length ≤ 100000000000) :
    Calls Try.prog 38 #[v, lv, .func (.func 21) #[] #[]] w fun e w' => ∃ v', e = .returned v' ∧ w'.ownsRow base 5 1 v' (bs ++ encList encI xs).length ((bs ++ encList encI xs).map bv) ∧ Below base w w' := by
  obtain ⟨A, n, c, rfl⟩ := hl.form
  have hn := hl.len
  have hbl : bs.length + 10 ≤ 1000000000000 := by rw [List.length_append] at hlen; omega
  have HN := Lib.hid hn
  have hnl : n ≤ 100000000000 := by omega
  clear hn
  go_enter Try.func38, Try.ntmps38
  go_wp2_with fail
  refine (int_own v bs n base w (by omega) (by omega) hown hbase hbl).mono ?_
  rintro e w1 ⟨v1, rfl, hown1, hb1⟩
  go_wp2_with fail
  go_loopw [0, 15] (fun vb vi wr => ∃ k : Nat, k ≤ n ∧ vi = .int .i64 k ∧ wr.ownsRow base 5 1 vb (bs ++ (encI n ++ encs encI (xs.take k))).length ((bs ++ (encI n ++ encs encI (xs.take k))).map bv) ∧ Below base w wr) (fun _ vi _ => n - (intOf vi).toNat)
  case atStart => exact ⟨0, by omega, rfl, by simpa [encs] using hown1, hb1⟩
  case round =>
    obtain ⟨k, hk, rfl, hownr, hbr⟩ := hrel
    by_cases hkn : k < n
    · obtain ⟨b, off, u, hA, hu, hcell⟩ := (hl.below hbr).at_ hkn
      simp only [iv] at hcell
      have hub := hx u (List.mem_of_getElem? hu)
      have hroom := enc_room encI bs xs k hlen
      rw [HN.out] at hroom
      have hroom2 : (bs ++ (encI n ++ encs encI (xs.take k))).length + 10 ≤ 1000000000000 := by omega
      have HT := Lib.hid (encs_take encI xs hu)
      have hbase2 : base ≤ wr.heap.size := by have := hbr.size; omega
      clear hu hroom
      rw [hA]
      go_wp2_with fail
      refine (int_own _ _ u base wr hub.1 hub.2 hownr hbase2 hroom2).mono ?_
      rintro e w2 ⟨v2, rfl, hown2, hb2⟩
      go_wp2_with fail
      go_roundw
      case rel => exact ⟨k + 1, by omega, value_int (by omega), by rw [HT.out]; simpa [List.append_assoc] using hown2, hbr.trans hb2⟩
      case measure => simp [intOf]; omega
    · have hkn' : k = n := by omega
      subst hkn'
      clear hkn
      go_wp2
      go_ret
      have hn := HN.out
      rw [List.take_of_length_le (by omega)] at hownr
      refine ⟨_, rfl, ?_, hbr⟩
      unfold encList
      rw [hn]
      exact hownr

end Go.Proofs.Ytefonoaffeahjaa
