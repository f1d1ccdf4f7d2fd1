/-
  The reference's single of collate: the elements of a character.
-/
import Derived.Test.YtafnjbmeponobaaGreatDoorPkAW
import Derived.Test.YtafnjbmeponobaaGreatDoorPkAV
namespace Go.Proofs.YtafnjbmeponobaaGreatDoor
open Go.RowKit

/-- An element as the model holds it. -/
def ev (e : El) : List Value := [.int .i64 (e.1 : Int), .int .i64 (e.2.1 : Int), .int .i64 (e.2.2 : Int)]
theorem ev_len (e : El) : (ev e).length = 3 := rfl
theorem ev_one (e : El) : ∀ u ∈ ev e, u.oneCell' = true := by
  intro u hu
  simp only [ev, List.mem_cons, List.not_mem_nil, or_false] at hu
  rcases hu with rfl | rfl | rfl <;> rfl
/-- A new slice of these elements. -/
def EndEls (w : World) (l : List El) (e : Ending) (w' : World) : Prop := ∃ A n c, e = .returned (.slice A n c) ∧ SArr 3 ev w' w'.heap.size (.slice A n c) l ∧ Below w.heap.size w w'
theorem new_el {w w0 : World} (hb : Below w.heap.size w w0) (e : El) {p s t : Int} (hp : p = (e.1 : Int)) (hs : s = (e.2.1 : Int)) (ht : t = (e.2.2 : Int)) :
    EndEls w [e] (.returned (.slice (some ⟨w0.heap.size, 0, none⟩) 1 1)) (w0.alloc (.cells #[.int .i64 p, .int .i64 s, .int .i64 t] 71)) := by
  subst hp hs ht
  refine ⟨_, _, _, rfl, ?_, hb.alloc hb.size _⟩
  have h := SArr.of_box (val := ev) (sz := 3) (xs := [e]) (n := 1) (c := 1) (Box.made w0 71 #[.int .i64 (e.1 : Int), .int .i64 (e.2.1 : Int), .int .i64 (e.2.2 : Int)]) rfl (Nat.le_refl _) (fun i u hu j x hx => by
    cases i with
    | zero =>
      simp at hu
      subst hu
      match j, hx with
      | 0, hx => simpa [ev] using hx
      | 1, hx => simpa [ev] using hx
      | 2, hx => simpa [ev] using hx
      | j + 3, hx => simp [ev] at hx
    | succ i => simp at hu)
  have e1 : (w0.alloc (.cells #[.int .i64 (e.1 : Int), .int .i64 (e.2.1 : Int), .int .i64 (e.2.2 : Int)] 71)).heap.size = w0.heap.size + 1 := by simp
  rw [e1]
  exact h
theorem single_open (c : Nat) : singleL c = 
  if kN c = 4 then [(100, 1, 1)] else if kN c = 5 then [(100 * c, 1, 1)] else if kN c = 3 then [(20000 + 100 * (c - 48), 1, 1)] else if kN c = 2 then [(0, 10 + (c - 768), 1)]
  else if scN c = 2 then [(50000 + 100 * (lowN c - 945), 1, capN c)] else if scN c = 3 ∧ lowN c ≤ 1103 then [(60000 + 200 * (lowN c - 1072), 1, capN c)]
  else if lowN c = 1108 then [(61100, 1, capN c)] else if lowN c = 1110 then [(61700, 1, capN c)] else if lowN c = 1169 then [(60700, 1, capN c)] else latL c := by
  unfold singleL
  simp only [Nat.beq_eq, Bool.and_eq_true, Nat.ble_eq]
/-- What the reference's single is asked of: a letter, or another character of a decomposed form. -/
structure Asked (c : Nat) : Prop where
  has : hasN c = true
  whole : wholeR c = [c]

/-- What the reference takes as a letter with a search form. -/
def Late (c : Nat) : Prop := kN c ≠ 4 ∧ kN c ≠ 5 ∧ kN c ≠ 3 ∧ kN c ≠ 2 ∧ scN c ≠ 2 ∧ ¬(scN c = 3 ∧ lowN c ≤ 1103) ∧ lowN c ≠ 1108 ∧ lowN c ≠ 1110 ∧ lowN c ≠ 1169
theorem chars_kind : (charL.all fun c => Nat.beq (kN c) 1 || Nat.beq (kN c) 2 || Nat.beq (kN c) 3 || Nat.beq (kN c) 4 || Nat.beq (kN c) 5) = true := by kernel_rfl
theorem kind_one {c : Nat} (h : hasN c = true) : kN c = 1 ∨ kN c = 2 ∨ kN c = 3 ∨ kN c = 4 ∨ kN c = 5 := by
  have h1 := List.all_eq_true.1 chars_kind c ((char_mem c).2 h)
  simp only [Bool.or_eq_true, Nat.beq_eq] at h1
  omega

set_option maxRecDepth 100000 in
set_option maxHeartbeats 6400000 in
theorem refSingle_early (c : Nat) (w : World) (hq : Asked c) (hD : ¬Late c) :
    Calls Tryz.prog 74 #[.int .i64 (c : Int)] w (EndEls w (singleL c)) := by
  have HC := Lib.hid (class_any (c : Int) w)
  have hk : clsR (c : Int) = (scN c, kN c) := by rw [clsF_eq]; rfl
  rw [hk] at HC
  unfold two at HC
  have HL := Lib.hid fun W => refLower_nat c W
  have HCap := Lib.hid fun W => refCapital_any c W
  have ok := ok_col hq.has hq.whole
  have hc16 : c < 65536 := (ok_of_has hq.has).1
  have hlow16 : lowN c < 65536 := (ok_of_has (low_has hq.has)).1
  have HQ := Lib.hid hq
  obtain ⟨R, hR⟩ : ∃ R, singleL c = R := ⟨_, rfl⟩
  rw [hR]
  rw [single_open] at hR
  have hdig := ok.dig
  have hmark := ok.mark
  have hkind : kN c = 1 ∨ kN c = 2 ∨ kN c = 3 ∨ kN c = 4 ∨ kN c = 5 := kind_one hq.has
  have hgr : kN c = 1 → scN c = 2 → 945 ≤ lowN c := ok.gr
  have hcy : kN c = 1 → scN c = 3 → lowN c ≤ 1103 → 1072 ≤ lowN c := ok.cy
  clear hk hq ok
  unfold Late at hD
  obtain ⟨k, hk⟩ : ∃ k, kN c = k := ⟨_, rfl⟩
  obtain ⟨s, hs⟩ : ∃ s, scN c = s := ⟨_, rfl⟩
  obtain ⟨l, hl⟩ : ∃ l, lowN c = l := ⟨_, rfl⟩
  obtain ⟨u, hu⟩ : ∃ u, capN c = u := ⟨_, rfl⟩
  rw [hk, hs, hl, hu] at hR
  rw [hk, hs, hl] at hD
  rw [hk, hs] at HC
  rw [hl] at HL hlow16
  rw [hu] at HCap
  rw [hk] at hdig hmark hkind
  rw [hk, hs, hl] at hgr hcy
  have HK := Lib.hid hk
  have HSc := Lib.hid hs
  have HLo := Lib.hid hl
  have HU := Lib.hid hu
  clear hk hs hl hu
  by_cases h0 : k = 4
  · subst h0
    have hRR : R = [(100, 1, 1)] := by rw [← hR, if_pos rfl]
    have HE := Lib.hid hRR
    clear hR hRR hdig hmark hgr hcy hkind
    go_enter Tryz.func74, Tryz.ntmps74
    go_wp2_with fail
    refine HC.out.mono ?_
    rintro e w1 ⟨rfl, q, rfl⟩
    have b1 : Below w.heap.size w (w.drewN q) := below_drewN (Below.refl _ _) q
    go_wp2_with fail
    refine (HL.out _).mono ?_
    rintro e w2 ⟨rfl, k2⟩
    have b2 := below_next b1 k2
    go_wp2
    go_ret
    rw [HE.out]
    exact new_el b2 (100, 1, 1) (by first | rfl | (simp; done) | (simp; omega) | omega) (by first | rfl | (simp; done) | (simp; omega) | omega) (by first | rfl | (simp; done) | omega)
  have t0 : ((k : Int) == 4) = false := eqb_false (by omega)
  by_cases h1 : k = 5
  · subst h1
    have hRR : R = [(100 * c, 1, 1)] := by rw [← hR, if_neg h0, if_pos rfl]
    have HE := Lib.hid hRR
    clear hR hRR hdig hmark hgr hcy hkind
    go_enter Tryz.func74, Tryz.ntmps74
    go_wp2_with fail
    refine HC.out.mono ?_
    rintro e w1 ⟨rfl, q, rfl⟩
    have b1 : Below w.heap.size w (w.drewN q) := below_drewN (Below.refl _ _) q
    go_wp2_with fail
    refine (HL.out _).mono ?_
    rintro e w2 ⟨rfl, k2⟩
    have b2 := below_next b1 k2
    go_wp2
    go_ret
    rw [HE.out]
    exact new_el b2 (100 * c, 1, 1) (by first | rfl | (simp; done) | (simp; omega) | omega) (by first | rfl | (simp; done) | (simp; omega) | omega) (by first | rfl | (simp; done) | omega)
  have t1 : ((k : Int) == 5) = false := eqb_false (by omega)
  by_cases h2 : k = 3
  · subst h2
    have hRR : R = [(20000 + 100 * (c - 48), 1, 1)] := by rw [← hR, if_neg h0, if_neg h1, if_pos rfl]
    have hb : 48 ≤ c := hdig rfl
    have HE := Lib.hid hRR
    clear hR hRR hdig hmark hgr hcy hkind
    go_enter Tryz.func74, Tryz.ntmps74
    go_wp2_with fail
    refine HC.out.mono ?_
    rintro e w1 ⟨rfl, q, rfl⟩
    have b1 : Below w.heap.size w (w.drewN q) := below_drewN (Below.refl _ _) q
    go_wp2_with fail
    refine (HL.out _).mono ?_
    rintro e w2 ⟨rfl, k2⟩
    have b2 := below_next b1 k2
    go_wp2
    go_ret
    rw [HE.out]
    exact new_el b2 (20000 + 100 * (c - 48), 1, 1) (by first | rfl | (simp; done) | (simp; omega) | omega) (by first | rfl | (simp; done) | (simp; omega) | omega) (by first | rfl | (simp; done) | omega)
  have t2 : ((k : Int) == 3) = false := eqb_false (by omega)
  by_cases h3 : k = 2
  · subst h3
    have hRR : R = [(0, 10 + (c - 768), 1)] := by rw [← hR, if_neg h0, if_neg h1, if_neg h2, if_pos rfl]
    have hb : 768 ≤ c := hmark rfl
    have HE := Lib.hid hRR
    clear hR hRR hdig hmark hgr hcy hkind
    go_enter Tryz.func74, Tryz.ntmps74
    go_wp2_with fail
    refine HC.out.mono ?_
    rintro e w1 ⟨rfl, q, rfl⟩
    have b1 : Below w.heap.size w (w.drewN q) := below_drewN (Below.refl _ _) q
    go_wp2_with fail
    refine (HL.out _).mono ?_
    rintro e w2 ⟨rfl, k2⟩
    have b2 := below_next b1 k2
    go_wp2
    go_ret
    rw [HE.out]
    exact new_el b2 (0, 10 + (c - 768), 1) (by first | rfl | (simp; done) | (simp; omega) | omega) (by first | rfl | (simp; done) | (simp; omega) | omega) (by first | rfl | (simp; done) | omega)
  have t3 : ((k : Int) == 2) = false := eqb_false (by omega)
  by_cases h4 : s = 2
  · subst h4
    have hRR : R = [(50000 + 100 * (l - 945), 1, u)] := by rw [← hR, if_neg h0, if_neg h1, if_neg h2, if_neg h3, if_pos rfl]
    have hb : 945 ≤ l := hgr (by omega) rfl
    have HE := Lib.hid hRR
    clear hR hRR hdig hmark hgr hcy hkind
    go_enter Tryz.func74, Tryz.ntmps74
    go_wp2_with fail
    refine HC.out.mono ?_
    rintro e w1 ⟨rfl, q, rfl⟩
    have b1 : Below w.heap.size w (w.drewN q) := below_drewN (Below.refl _ _) q
    go_wp2_with fail
    refine (HL.out _).mono ?_
    rintro e w2 ⟨rfl, k2⟩
    have b2 := below_next b1 k2
    go_wp2_with fail
    refine (HCap.out _).mono ?_
    rintro e w3 ⟨rfl, k3⟩
    have b3 := below_next b2 k3
    go_wp2
    go_ret
    rw [HE.out]
    exact new_el b3 (50000 + 100 * (l - 945), 1, u) (by first | rfl | (simp; done) | (simp; omega) | omega) (by first | rfl | (simp; done) | (simp; omega) | omega) (by first | rfl | (simp; done) | omega)
  have t4 : ((s : Int) == 2) = false := eqb_false (by omega)
  by_cases h5 : s = 3 ∧ l ≤ 1103
  · obtain ⟨h5a, h5b⟩ := h5
    subst h5a
    have t5b : decide ((l : Int) ≤ 1103) = true := by simp; omega
    have t5c : decide (l ≤ 1103) = true := by simpa using h5b
    have hRR : R = [(60000 + 200 * (l - 1072), 1, u)] := by rw [← hR, if_neg h0, if_neg h1, if_neg h2, if_neg h3, if_neg (by omega), if_pos ⟨rfl, h5b⟩]
    have hb : 1072 ≤ l := hcy (by omega) rfl h5b
    have HE := Lib.hid hRR
    clear hR hRR hdig hmark hgr hcy hkind
    go_enter Tryz.func74, Tryz.ntmps74
    go_wp2_with fail
    refine HC.out.mono ?_
    rintro e w1 ⟨rfl, q, rfl⟩
    have b1 : Below w.heap.size w (w.drewN q) := below_drewN (Below.refl _ _) q
    go_wp2_with fail
    refine (HL.out _).mono ?_
    rintro e w2 ⟨rfl, k2⟩
    have b2 := below_next b1 k2
    go_wp2_with fail
    refine (HCap.out _).mono ?_
    rintro e w3 ⟨rfl, k3⟩
    have b3 := below_next b2 k3
    go_wp2
    go_ret
    rw [HE.out]
    exact new_el b3 (60000 + 200 * (l - 1072), 1, u) (by first | rfl | (simp; done) | (simp; omega) | omega) (by first | rfl | (simp; done) | (simp; omega) | omega) (by first | rfl | (simp; done) | omega)
  have t5 : (((s : Int) == 3) && decide ((l : Int) ≤ 1103)) = false := by
    cases hd : decide ((l : Int) ≤ 1103) with
    | false => rw [Bool.and_false]
    | true => rw [Bool.and_true]; exact eqb_false (fun e => h5 ⟨by omega, by have := of_decide_eq_true hd; omega⟩)
  by_cases h6 : l = 1108
  · have tt : ((l : Int) == 1108) = true := by rw [h6]; rfl
    have t5x : decide ((l : Int) ≤ 1103) = false := by simp; omega
    have t5n : decide (l ≤ 1103) = false := by simp; omega
    have z5 : ¬((l : Int) ≤ 1103) := by omega
    have hRR : R = [(61100, 1, u)] := by rw [← hR, if_neg h0, if_neg h1, if_neg h2, if_neg h3, if_neg h4, if_neg h5, if_pos h6]
    have HE := Lib.hid hRR
    clear hR hRR hdig hmark hgr hcy hkind
    clear hD
    cases t5z : ((s : Int) == 3)
    all_goals
      go_enter Tryz.func74, Tryz.ntmps74
      go_wp2_with fail
      refine HC.out.mono ?_
      rintro e w1 ⟨rfl, q, rfl⟩
      have b1 : Below w.heap.size w (w.drewN q) := below_drewN (Below.refl _ _) q
      go_wp2_with fail
      refine (HL.out _).mono ?_
      rintro e w2 ⟨rfl, k2⟩
      have b2 := below_next b1 k2
      go_wp2_with fail
      refine (HCap.out _).mono ?_
      rintro e w3 ⟨rfl, k3⟩
      have b3 := below_next b2 k3
      go_wp2
      go_ret
      rw [HE.out]
      exact new_el b3 (61100, 1, u) (by first | rfl | (simp; done) | (simp; omega) | omega) (by first | rfl | (simp; done) | (simp; omega) | omega) (by first | rfl | (simp; done) | omega)
  have t6 : ((l : Int) == 1108) = false := eqb_false (by omega)
  by_cases h7 : l = 1110
  · have tt : ((l : Int) == 1110) = true := by rw [h7]; rfl
    have t5x : decide ((l : Int) ≤ 1103) = false := by simp; omega
    have t5n : decide (l ≤ 1103) = false := by simp; omega
    have z5 : ¬((l : Int) ≤ 1103) := by omega
    have hRR : R = [(61700, 1, u)] := by rw [← hR, if_neg h0, if_neg h1, if_neg h2, if_neg h3, if_neg h4, if_neg h5, if_neg h6, if_pos h7]
    have HE := Lib.hid hRR
    clear hR hRR hdig hmark hgr hcy hkind
    clear hD
    cases t5z : ((s : Int) == 3)
    all_goals
      go_enter Tryz.func74, Tryz.ntmps74
      go_wp2_with fail
      refine HC.out.mono ?_
      rintro e w1 ⟨rfl, q, rfl⟩
      have b1 : Below w.heap.size w (w.drewN q) := below_drewN (Below.refl _ _) q
      go_wp2_with fail
      refine (HL.out _).mono ?_
      rintro e w2 ⟨rfl, k2⟩
      have b2 := below_next b1 k2
      go_wp2_with fail
      refine (HCap.out _).mono ?_
      rintro e w3 ⟨rfl, k3⟩
      have b3 := below_next b2 k3
      go_wp2
      go_ret
      rw [HE.out]
      exact new_el b3 (61700, 1, u) (by first | rfl | (simp; done) | (simp; omega) | omega) (by first | rfl | (simp; done) | (simp; omega) | omega) (by first | rfl | (simp; done) | omega)
  have t7 : ((l : Int) == 1110) = false := eqb_false (by omega)
  by_cases h8 : l = 1169
  · have tt : ((l : Int) == 1169) = true := by rw [h8]; rfl
    have t5x : decide ((l : Int) ≤ 1103) = false := by simp; omega
    have t5n : decide (l ≤ 1103) = false := by simp; omega
    have z5 : ¬((l : Int) ≤ 1103) := by omega
    have hRR : R = [(60700, 1, u)] := by rw [← hR, if_neg h0, if_neg h1, if_neg h2, if_neg h3, if_neg h4, if_neg h5, if_neg h6, if_neg h7, if_pos h8]
    have HE := Lib.hid hRR
    clear hR hRR hdig hmark hgr hcy hkind
    clear hD
    cases t5z : ((s : Int) == 3)
    all_goals
      go_enter Tryz.func74, Tryz.ntmps74
      go_wp2_with fail
      refine HC.out.mono ?_
      rintro e w1 ⟨rfl, q, rfl⟩
      have b1 : Below w.heap.size w (w.drewN q) := below_drewN (Below.refl _ _) q
      go_wp2_with fail
      refine (HL.out _).mono ?_
      rintro e w2 ⟨rfl, k2⟩
      have b2 := below_next b1 k2
      go_wp2_with fail
      refine (HCap.out _).mono ?_
      rintro e w3 ⟨rfl, k3⟩
      have b3 := below_next b2 k3
      go_wp2
      go_ret
      rw [HE.out]
      exact new_el b3 (60700, 1, u) (by first | rfl | (simp; done) | (simp; omega) | omega) (by first | rfl | (simp; done) | (simp; omega) | omega) (by first | rfl | (simp; done) | omega)
  have t8 : ((l : Int) == 1169) = false := eqb_false (by omega)
  exact absurd ⟨h0, h1, h2, h3, h4, h5, h6, h7, h8⟩ hD

end Go.Proofs.YtafnjbmeponobaaGreatDoor
