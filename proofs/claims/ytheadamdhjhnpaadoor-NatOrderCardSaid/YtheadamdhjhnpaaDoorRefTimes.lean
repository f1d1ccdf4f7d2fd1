/-
  The reference's times.
-/
import Derived.Test.YtheadamdhjhnpaaDoorRefDiv
namespace Go.Proofs.YtheadamdhjhnpaaDoor
open Go.RowKit

theorem vl_set {l : List Nat} {p o : Nat} (h : l[p]? = some o) (x : Nat) : vl (l.set p x) + 65536 ^ p * o = vl l + 65536 ^ p * x := by
  induction l generalizing p with
  | nil => simp at h
  | cons d l ih =>
    cases p with
    | zero => simp at h; subst h; simp [vl]; omega
    | succ p =>
      simp only [List.getElem?_cons_succ] at h
      have := ih h
      simp only [List.set_cons_succ, vl, Nat.pow_succ]
      have e1 : 65536 ^ p * 65536 * o = 65536 * (65536 ^ p * o) := by rw [Nat.mul_comm (65536 ^ p) 65536, Nat.mul_assoc]
      have e2 : 65536 ^ p * 65536 * x = 65536 * (65536 ^ p * x) := by rw [Nat.mul_comm (65536 ^ p) 65536, Nat.mul_assoc]
      rw [e1, e2]
      omega
theorem Dig.set {l : List Nat} (h : Dig l) (p : Nat) {x : Nat} (hx : x < 65536) : Dig (l.set p x) := by
  intro d hd
  rcases List.mem_or_eq_of_mem_set hd with h1 | rfl
  · exact h d h1
  · exact hx

/-- Cells that hold a list of digits. -/
def cellsOf (l : List Nat) : Array Value := (l.map nv).toArray
theorem cellsOf_size (l : List Nat) : (cellsOf l).size = l.length := by simp [cellsOf]
theorem cellsOf_at {l : List Nat} {k d : Nat} (h : l[k]? = some d) : (cellsOf l)[k]? = some (nv d) := by simp [cellsOf, h]
theorem cellsOf_set (l : List Nat) (k d : Nat) : (cellsOf l).setIfInBounds k (nv d) = cellsOf (l.set k d) := by simp [cellsOf, List.map_set]
theorem cellsOf_made (n : Nat) : madeOf (.int .i64 0) n = cellsOf (List.replicate n 0) := by
  apply Array.ext
  · simp [madeOf_size, cellsOf]
  · intro i h1 h2
    simp [madeOf, madeCells, cellsOf, nv, Value.cells, Nat.mod_one]
theorem arr_cells {w : World} {g n : Nat} {t : TypeId} {l : List Nat} (hb : Box w g t (cellsOf l)) (hn : l.length = n) : Arr nv w (g + 1) (.slice (some ⟨g, 0, none⟩) n n) l :=
  Arr.of_box hb hn (Nat.le_refl _) fun _ _ hu => cellsOf_at hu

/-- The head of a round of the outer loop. -/
def Out (l m os : List Nat) (i : Nat) : Prop := os.length = l.length + m.length ∧ Dig os ∧ (∀ j d, i + m.length ≤ j → os[j]? = some d → d = 0) ∧ vl os = vl (l.take i) * vl m
/-- The head of a round of the inner loop. -/
def In (l m os : List Nat) (i a k cy : Nat) : Prop := os.length = l.length + m.length ∧ Dig os ∧ (∀ j d, i + m.length ≤ j → os[j]? = some d → d = 0) ∧ cy < 65536 ∧
  vl os + 65536 ^ (i + k) * cy = vl (l.take i) * vl m + 65536 ^ i * (a * vl (m.take k))
theorem vl_zeros (n : Nat) : vl (List.replicate n 0) = 0 := by
  induction n with
  | zero => rfl
  | succ n ih => rw [List.replicate_succ, vl, ih]
theorem Out.start (l m : List Nat) : Out l m (List.replicate (l.length + m.length) 0) 0 := by
  refine ⟨by simp, fun d hd => by have := (List.mem_replicate.1 hd).2; omega, fun j d _ hd => ?_, by rw [vl_zeros]; simp [vl]⟩
  rw [List.getElem?_replicate] at hd
  split at hd
  · injection hd with hd; exact hd.symm
  · cases hd
theorem Out.in_ {l m os : List Nat} {i : Nat} (h : Out l m os i) (a : Nat) : In l m os i a 0 0 := ⟨h.1, h.2.1, h.2.2.1, by omega, by rw [h.2.2.2]; simp [vl]⟩
theorem In.step {l m os : List Nat} {i a k cy o b : Nat} (h : In l m os i a k cy) (ha : a < 65536) (hb : m[k]? = some b) (hbl : b < 65536) (ho : os[i + k]? = some o) :
    In l m (os.set (i + k) ((cy + (o + a * b)) % 65536)) i a (k + 1) ((cy + (o + a * b)) / 65536) := by
  obtain ⟨h1, h2, h3, h4, h5⟩ := h
  have hol := h2.at_ ho
  have hkm := (List.getElem?_eq_some_iff.1 hb).1
  have hab : a * b ≤ 65535 * 65535 := Nat.mul_le_mul (by omega) (by omega)
  refine ⟨by simp [h1], h2.set _ (Nat.mod_lt _ (by omega)), fun j d hj hd => ?_, by omega, ?_⟩
  · rw [List.getElem?_set_ne (by omega)] at hd
    exact h3 j d hj hd
  · have hs := vl_set ho ((cy + (o + a * b)) % 65536)
    rw [vl_take hb, Nat.mul_add, Nat.mul_add]
    generalize hS : cy + (o + a * b) = s at *
    have e1 : 65536 ^ (i + (k + 1)) * (s / 65536) = 65536 ^ (i + k) * (65536 * (s / 65536)) := by rw [show i + (k + 1) = (i + k) + 1 from by omega, Nat.pow_succ, Nat.mul_assoc]
    have e2 : 65536 ^ (i + k) * (s % 65536) + 65536 ^ (i + k) * (65536 * (s / 65536)) = 65536 ^ (i + k) * s := by rw [← Nat.mul_add]; congr 1; omega
    have e3 : 65536 ^ (i + k) * s = 65536 ^ (i + k) * cy + (65536 ^ (i + k) * o + 65536 ^ (i + k) * (a * b)) := by rw [← hS, Nat.mul_add, Nat.mul_add]
    have e4 : 65536 ^ i * (a * (65536 ^ k * b)) = 65536 ^ (i + k) * (a * b) := by
      rw [Nat.pow_add, Nat.mul_assoc, Nat.mul_left_comm a]
    rw [e1, e4]
    omega
theorem In.done {l m os : List Nat} {i a cy : Nat} (h : In l m os i a m.length cy) (ha : l[i]? = some a) (hi : i < l.length) : Out l m (os.set (i + m.length) cy) (i + 1) := by
  obtain ⟨h1, h2, h3, h4, h5⟩ := h
  have ho : os[i + m.length]? = some 0 := by
    have : os[i + m.length]? = some (os[i + m.length]'(by omega)) := List.getElem?_eq_getElem (by omega)
    rw [this]
    have := h3 (i + m.length) _ (Nat.le_refl _) this
    rw [this]
  have hs := vl_set ho cy
  refine ⟨by simp [h1], h2.set _ h4, fun j d hj hd => ?_, ?_⟩
  · rw [List.getElem?_set_ne (by omega)] at hd
    exact h3 j d (by omega) hd
  · rw [List.take_length] at h5
    rw [vl_take ha, Nat.add_mul, Nat.mul_assoc]
    omega
theorem Out.done {l m os : List Nat} (h : Out l m os l.length) : tr os = dg (vl l * vl m) := by
  obtain ⟨h1, h2, h3, h4⟩ := h
  rw [List.take_length] at h4
  rw [tr_eq _ h2, h4]

set_option maxHeartbeats 3200000 in
theorem times_any (A A' : Option Addr) (n n' c c' : Nat) (l m : List Nat) (w : World) (h : Arr nv w w.heap.size (.slice A n c) l) (h' : Arr nv w w.heap.size (.slice A' n' c') m) (hl : Dig l) (hm : Dig m) (hlen : n ≤ 100000) (hlen' : n' ≤ 100000) :
    Calls Tryd.prog 56 #[.slice A n c, .slice A' n' c'] w (NewInts w (dg (vl l * vl m))) := by
  have HL := Lib.hid h.len
  have HM := Lib.hid h'.len
  have hmk : ∀ W : World, (Instr.makeSlice 22 (.int .i64 ((n : Int) + (n' : Int))) (.int .i64 ((n : Int) + (n' : Int)))).run Tryd.prog W = .ok (.slice (some ⟨W.heap.size, 0, none⟩) (n + n') (n + n')) (W.alloc (.cells (cellsOf (List.replicate (n + n') 0)) 3)) := fun W => by
    rw [← cellsOf_made]; exact make_ints (n + n') (n + n') (Nat.le_refl _) (by omega) W
  go_enter Tryd.func56, Tryd.ntmps56
  go_wp2
  clear hmk
  go_loopw [6, 7, 8] (fun i _ _ wr => ∃ (k : Nat) (os : List Nat), k ≤ n ∧ i = .int .i64 (k : Int) ∧ Out l m os k ∧ Box wr w.heap.size 3 (cellsOf os) ∧ Below w.heap.size w wr) (fun i _ _ _ => n - (intOf i).toNat)
  case atStart => exact ⟨0, _, by omega, rfl, by have := Out.start l m; rwa [HL.out, HM.out] at this, Box.made _ _ _, (Below.refl _ _).alloc (Nat.le_refl _) _⟩
  case round =>
    obtain ⟨i, os, hi, rfl, hout, hbox, hbel⟩ := hrel
    by_cases hlt : i < n
    · obtain ⟨b0, o0, rfl, hB0, hc0⟩ := h.some_ (by omega)
      obtain ⟨a, hat⟩ : ∃ a, l[i]? = some a := ⟨_, List.getElem?_eq_getElem (by have := HL.out; omega)⟩
      have d0 := hc0 i a hat
      have hal := hl.at_ hat
      have i0 : (i : Int) < (n : Int) := by omega
      have HIN := Lib.hid (hout.in_ a)
      have HAT := Lib.hid hat
      have HD0 := Lib.hid d0
      clear hout hc0 hat d0
      obtain ⟨wo, rfl⟩ : ∃ wo : World, wo = wr := ⟨_, rfl⟩
      go_wp2
      go_loopw [7, 8] (fun cy k wr => ∃ (j y : Nat) (os : List Nat), j ≤ n' ∧ k = .int .i64 (j : Int) ∧ cy = .int .i64 (y : Int) ∧ In l m os i a j y ∧ Box wr w.heap.size 3 (cellsOf os) ∧ Below w.heap.size w wr) (fun _ k _ => n' - (intOf k).toNat)
      case atStart => exact ⟨0, 0, os, by omega, rfl, rfl, HIN.out, hbox, hbel⟩
      case round =>
        obtain ⟨j, y, os2, hj, rfl, rfl, hin, hbox2, hbel2⟩ := hrel
        have hy := hin.2.2.2.1
        by_cases hlt2 : j < n'
        · obtain ⟨b1, o1, rfl, hB1, hc1⟩ := h'.some_ (by omega)
          obtain ⟨b, hbt⟩ : ∃ a, m[j]? = some a := ⟨_, List.getElem?_eq_getElem (by have := HM.out; omega)⟩
          have d1 := (hbel2.cell (p := ⟨b1, o1 + j, none⟩) hB1).trans (hc1 j b hbt)
          have d0 := (hbel2.cell (p := ⟨b0, o0 + i, none⟩) hB0).trans HD0.out
          obtain ⟨o, hot⟩ : ∃ o, os2[i + j]? = some o := ⟨_, List.getElem?_eq_getElem (by rw [hin.1, HL.out, HM.out]; omega)⟩
          have d2 := hbox2.cell (i + j)
          rw [cellsOf_at hot] at d2
          have hf := hbox2.free (i + j)
          have hbl := hm.at_ hbt
          have hol := hin.2.1.at_ hot
          have hab : a * b ≤ 65535 * 65535 := Nat.mul_le_mul (by omega) (by omega)
          obtain ⟨q, hq⟩ : ∃ q, q = a * b := ⟨_, rfl⟩
          have HS := Lib.hid (hin.step hal hbt hbl hot)
          rw [← hq] at HS hab
          have hqi : (a : Int) * (b : Int) = (q : Int) := by rw [hq]; simp
          have s1 : IntKind.i64.wrap ((i : Int) + (j : Int)) = (i : Int) + (j : Int) := wraps_i64 _ (by omega) (by omega)
          have s2 : IntKind.i64.wrap (q : Int) = (q : Int) := wraps_i64 _ (by omega) (by omega)
          have s3 : IntKind.i64.wrap ((o : Int) + (q : Int)) = (o : Int) + (q : Int) := wraps_i64 _ (by omega) (by omega)
          have s4 : IntKind.i64.wrap ((y : Int) + ((o : Int) + (q : Int))) = (y : Int) + ((o : Int) + (q : Int)) := wraps_i64 _ (by omega) (by omega)
          have i1 : (j : Int) < (n' : Int) := by omega
          have i2 : (i : Int) + (j : Int) < (n : Int) + (n' : Int) := by omega
          have i3 : (0 : Int) ≤ (i : Int) + (j : Int) := by omega
          have i4 : ((i : Int) + (j : Int)).toNat = i + j := by omega
          simp only [nv] at d0 d1 d2
          clear hc1 hbt hot hq hin
          go_wp2
          go_quiet (fail)
          clear s1 s2 s3 s4 hqi
          go_wp2
          go_roundw
          case rel =>
            have hv : Value.int .i64 (((y : Int) + ((o : Int) + (q : Int))) % 65536) = nv ((y + (o + q)) % 65536) := value_int (by omega)
            rw [hv]
            refine ⟨j + 1, _, _, by omega, by go_num, by go_num, HS.out, ?_, (below_drewN hbel2 nq).setCell (Nat.le_refl _) _⟩
            rw [← cellsOf_set]
            exact (hbox2.drewN nq).put _ _
          case measure => simp [intOf]; omega
        · obtain rfl : j = m.length := by have := HM.out; omega
          have hli : i < l.length := by have := HL.out; omega
          have HO := Lib.hid (hin.done HAT.out hli)
          have hos : os2.length = l.length + m.length := hin.1
          obtain ⟨x2, hx2⟩ : ∃ v, (cellsOf os2)[i + n']? = some v := ⟨_, Array.getElem?_eq_getElem (by rw [cellsOf_size, hos, HL.out, HM.out]; omega)⟩
          have d3 := hbox2.cell (i + n')
          rw [hx2] at d3
          have hf := hbox2.free (i + n')
          have i2 : (i : Int) + (n' : Int) < (n : Int) + (n' : Int) := by omega
          have hjm : m.length = n' := HM.out
          have HJM := Lib.hid hjm
          clear hin hx2 hos
          rw [hjm]
          clear hjm
          go_wp2
          go_roundw
          case rel =>
            have hv : Value.int .i64 (y : Int) = nv y := rfl
            rw [hv]
            refine ⟨i + 1, _, by omega, by go_num, HO.out, ?_, hbel2.setCell (Nat.le_refl _) _⟩
            rw [HJM.out, ← cellsOf_set]
            exact hbox2.put _ _
          case measure => simp [intOf]; omega
    · obtain rfl : i = l.length := by have := HL.out; omega
      have HT := Lib.hid hout.done
      have hA := arr_cells hbox (by rw [hout.1, HL.out, HM.out] : os.length = n + n')
      clear hout
      go_wp2_with fail
      refine (trim_at w _ (n + n') (n + n') _ _ _ hbel (hA.more hbox.lt) HT.out (by omega)).mono ?_
      rintro e w2 ⟨A2, c2, rfl, hA2, k2⟩
      go_wp2
      go_ret
      exact ⟨A2, c2, rfl, hA2, k2⟩

end Go.Proofs.YtheadamdhjhnpaaDoor
