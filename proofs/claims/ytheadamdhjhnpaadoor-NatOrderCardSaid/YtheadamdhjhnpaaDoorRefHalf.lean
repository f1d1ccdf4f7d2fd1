/-
  The reference's half.
-/
import Derived.Test.YtheadamdhjhnpaaDoorRefLess
namespace Go.Proofs.YtheadamdhjhnpaaDoor
open Go.RowKit

def odd0 : List Nat → Nat
  | [] => 0
  | e :: _ => e % 2
def halfL : List Nat → List Nat
  | [] => []
  | d :: l => (d / 2 + 32768 * odd0 l) :: halfL l
theorem halfL_length : ∀ l, (halfL l).length = l.length
  | [] => rfl
  | d :: l => by simp [halfL, halfL_length l]
theorem odd0_vl (l : List Nat) : odd0 l = vl l % 2 := by
  cases l with
  | nil => rfl
  | cons e l => simp only [odd0, vl]; omega
theorem vl_half (l : List Nat) : vl (halfL l) = vl l / 2 := by
  induction l with
  | nil => rfl
  | cons d l ih => rw [halfL, vl, vl, ih, odd0_vl]; omega
theorem dig_half (l : List Nat) (h : Dig l) : Dig (halfL l) := by
  induction l with
  | nil => intro d hd; simp [halfL] at hd
  | cons d l ih =>
    intro x hx
    rcases List.mem_cons.1 hx with rfl | hx
    · have := h.head
      have ho : odd0 l ≤ 1 := by rw [odd0_vl]; omega
      omega
    · exact ih h.tail x hx
theorem half_last : ∀ (l : List Nat) (k d : Nat), l[k]? = some d → l[k + 1]? = none → (halfL l)[k]? = some (d / 2)
  | [], k, d, h, _ => by simp at h
  | e :: l, 0, d, h, h1 => by
    simp at h h1
    subst h1
    simp [halfL, odd0, h]
  | e :: l, k + 1, d, h, h1 => by
    simp only [List.getElem?_cons_succ] at h h1
    simp only [halfL, List.getElem?_cons_succ]
    exact half_last l k d h h1
theorem half_at : ∀ (l : List Nat) (k d e : Nat), l[k]? = some d → l[k + 1]? = some e → (halfL l)[k]? = some (d / 2 + 32768 * (e % 2))
  | [], k, d, e, h, _ => by simp at h
  | x :: l, 0, d, e, h, h1 => by
    cases l with
    | nil => simp at h1
    | cons y l => simp at h h1; simp [halfL, odd0, h, h1]
  | x :: l, k + 1, d, e, h, h1 => by
    simp only [List.getElem?_cons_succ] at h h1
    simp only [halfL, List.getElem?_cons_succ]
    exact half_at l k d e h h1

/-- The cells below k are those of S. -/
def Upto (S : List Nat) (k : Nat) (cs : Array Value) : Prop := cs.size = S.length ∧ ∀ i u, i < k → S[i]? = some u → cs[i]? = some (nv u)
theorem Upto.step {S : List Nat} {k : Nat} {cs : Array Value} (h : Upto S k cs) {u : Nat} (hu : S[k]? = some u) : Upto S (k + 1) (cs.setIfInBounds k (nv u)) := by
  refine ⟨by simp [h.1], fun i x hi hx => ?_⟩
  by_cases hik : k = i
  · subst hik
    rw [hu] at hx
    injection hx with hx
    rw [Array.getElem?_setIfInBounds_self, if_pos (by rw [h.1]; exact (List.getElem?_eq_some_iff.1 hu).1), hx]
  · rw [Array.getElem?_setIfInBounds_ne hik]
    exact h.2 i x (by omega) hx
theorem Upto.done {S : List Nat} {k n : Nat} {cs : Array Value} {w : World} {g : Nat} {t : TypeId} (h : Upto S k cs) (hb : Box w g t cs) (hk : S.length ≤ k) (hn : S.length = n) : Arr nv w (g + 1) (.slice (some ⟨g, 0, none⟩) n n) S :=
  Arr.of_box hb hn (Nat.le_refl _) fun i u hu => h.2 i u (by have := (List.getElem?_eq_some_iff.1 hu).1; omega) hu
theorem Upto.put2 {S : List Nat} {k u : Nat} {cs : Array Value} (h : Upto S k cs) (x : Value) (hu : S[k]? = some u) : Upto S (k + 1) ((cs.setIfInBounds k x).setIfInBounds k (nv u)) := by
  have h2 : Upto S k (cs.setIfInBounds k x) := ⟨by simp [h.1], fun i y hi hy => by rw [Array.getElem?_setIfInBounds_ne (by omega)]; exact h.2 i y hi hy⟩
  exact h2.step hu

set_option maxHeartbeats 3200000 in
theorem half_any (A : Option Addr) (n c : Nat) (l : List Nat) (w : World) (h : Arr nv w w.heap.size (.slice A n c) l) (hl : Dig l) (hlen : n ≤ 100000) :
    Calls Tryd.prog 70 #[.slice A n c] w (NewInts w (dg (vl l / 2))) := by
  have HL := Lib.hid h.len
  have hmk := make_ints n n (Nat.le_refl _) (by omega)
  go_enter Tryd.func70, Tryd.ntmps70
  go_wp2
  clear hmk
  go_loopw [4] (fun i wr => ∃ (k : Nat) (cs : Array Value), k ≤ n ∧ i = .int .i64 (k : Int) ∧ Upto (halfL l) k cs ∧ Box wr w.heap.size 3 cs ∧ Below w.heap.size w wr) (fun i _ => n - (intOf i).toNat)
  case atStart => exact ⟨0, _, by omega, rfl, ⟨by rw [madeOf_size, halfL_length, HL.out], fun i u hi => by omega⟩, Box.made _ _ _, (Below.refl _ _).alloc (Nat.le_refl _) _⟩
  case round =>
    obtain ⟨k, cs, hk, rfl, hup, hbox, hbel⟩ := hrel
    by_cases hlt : k < n
    · obtain ⟨b0, o0, rfl, hB0, hc0⟩ := h.some_ (by omega)
      obtain ⟨a, hat⟩ : ∃ a, l[k]? = some a := ⟨_, List.getElem?_eq_getElem (by have := HL.out; omega)⟩
      have d0 := (hbel.cell (p := ⟨b0, o0 + k, none⟩) hB0).trans (hc0 k a hat)
      have hal := hl.at_ hat
      simp only [nv] at d0
      have i0 : (k : Int) < (n : Int) := by omega
      obtain ⟨x2, hx2⟩ : ∃ v, cs[k]? = some v := ⟨_, Array.getElem?_eq_getElem (show k < cs.size by rw [hup.1, halfL_length, HL.out]; exact hlt)⟩
      have d3 := hbox.cell k
      rw [hx2] at d3
      have hf := hbox.free k
      by_cases hl2 : k + 1 < n
      · obtain ⟨e, het⟩ : ∃ a, l[k + 1]? = some a := ⟨_, List.getElem?_eq_getElem (by have := HL.out; omega)⟩
        have d1' : ∀ v, w.alloc (.cells v 3) = w.alloc (.cells v 3) := fun _ => rfl
        have d1 := (hbel.cell (p := ⟨b0, o0 + (k + 1), none⟩) hB0).trans (hc0 (k + 1) e het)
        have d1s : (wr.setCell ⟨w.heap.size, k, none⟩ (.int .i64 ((a : Int) / 2))).cell? ⟨b0, o0 + (k + 1), none⟩ = some (nv e) := ((Below.refl w.heap.size wr).setCell (p := ⟨w.heap.size, k, none⟩) (Nat.le_refl _) _).cell (p := ⟨b0, o0 + (k + 1), none⟩) hB0 |>.trans d1
        have tl : decide ((k : Int) + 1 < (n : Int)) = true := by simp; omega
        have hhalf := half_at l k a e hat het
        have HU := Lib.hid hup
        simp only [nv] at d1s
        clear d1' d1 hc0 hx2 hat het hup
        rcases Nat.mod_two_eq_zero_or_one e with ho | ho
        · have to : (((e : Int) % 2) == 1) = false := by simp; omega
          rw [ho] at hhalf
          have HS := Lib.hid (HU.out.step hhalf)
          clear hhalf ho
          go_wp2
          go_roundw
          case rel =>
            have hv : Value.int .i64 ((a : Int) / 2) = nv (a / 2 + 32768 * 0) := value_int (by omega)
            rw [hv]
            exact ⟨k + 1, _, by omega, by go_num, HS.out, hbox.put _ _, hbel.setCell (Nat.le_refl _) _⟩
          case measure => simp [intOf]; omega
        · have to : (((e : Int) % 2) == 1) = true := by simp; omega
          rw [ho] at hhalf
          have HS := Lib.hid (HU.out.put2 (.int .i64 ((a : Int) / 2)) hhalf)
          clear hhalf ho
          go_wp2
          go_roundw
          case rel =>
            have hv : Value.int .i64 ((a : Int) / 2 + 32768) = nv (a / 2 + 32768 * 1) := value_int (by omega)
            rw [hv]
            exact ⟨k + 1, _, by omega, by go_num, HS.out, (hbox.put _ _).put _ _, (hbel.setCell (Nat.le_refl _) _).setCell (Nat.le_refl _) _⟩
          case measure => simp [intOf]; omega
      · have tl : decide ((k : Int) + 1 < (n : Int)) = false := by simp; omega
        have hhalf := half_last l k a hat (List.getElem?_eq_none (by have := HL.out; omega))
        have HS := Lib.hid (hup.step hhalf)
        clear hhalf hup hc0 hx2 hat
        go_wp2
        go_roundw
        case rel =>
          have hv : Value.int .i64 ((a : Int) / 2) = nv (a / 2) := value_int (by omega)
          rw [hv]
          exact ⟨k + 1, _, by omega, by go_num, HS.out, hbox.put _ _, hbel.setCell (Nat.le_refl _) _⟩
        case measure => simp [intOf]; omega
    · have hA := hup.done (n := n) hbox (by rw [halfL_length, HL.out]; omega) (by rw [halfL_length, HL.out])
      have htr : tr (halfL l) = dg (vl l / 2) := by rw [tr_eq _ (dig_half l hl), vl_half]
      have HT := Lib.hid htr
      clear htr hup
      go_wp2_with fail
      refine (trim_at w _ n n _ _ _ hbel (hA.more hbox.lt) HT.out (by omega)).mono ?_
      rintro e w2 ⟨A2, c2, rfl, hA2, k2⟩
      go_wp2
      go_ret
      exact ⟨A2, c2, rfl, hA2, k2⟩

end Go.Proofs.YtheadamdhjhnpaaDoor
