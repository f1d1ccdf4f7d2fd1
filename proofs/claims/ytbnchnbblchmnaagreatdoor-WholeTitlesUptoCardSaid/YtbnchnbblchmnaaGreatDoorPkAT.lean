/-
  The library's insertion sort.
  The library's merging of two sorted parts, one of which has a single element.
  The library's merging of two sorted parts, the second of which has a single element.
-/
import Derived.Test.YtbnchnbblchmnaaGreatDoorPkAS
namespace Go.Proofs.YtbnchnbblchmnaaGreatDoor
open Go.RowKit

section
variable {cl : Nat → Nat}
theorem Srtd.then_ {l r m m' : List Nat} (h : Srtd cl l m) (h2 : Srtd cl (m ++ r) m') : Srtd cl (l ++ r) m' := ⟨h2.1, (h.2.app (Stab.refl r)).trans h2.2⟩
theorem asc_short {l : List Nat} (h : l.length ≤ 1) : Asc cl l := by
  match l, h with
  | [], _ => exact asc_nil
  | [x], _ => exact asc_one x
theorem asc_last {S : List Nat} {x y : Nat} (h : Asc cl (S ++ [x])) (hx : cl x ≤ cl y) : ∀ u ∈ S ++ [x], cl u ≤ cl y := by
  intro u hu
  rcases List.mem_append.1 hu with hu | hu
  · have := (asc_app.1 h).2.2 u hu x (List.mem_singleton.2 rfl)
    omega
  · rw [List.mem_singleton.1 hu]; exact hx
end

set_option maxRecDepth 100000 in
set_option maxHeartbeats 6400000 in
theorem insertion_any (g off n c cap a b : Nat) (P U Q : List Nat) (w : World) (hP : P.length = off + a) (hb : a + U.length = b) (hn : b ≤ n) (hsz : n ≤ 1000000000)
    (hrow : Row w g cap (P ++ (U ++ Q))) :
    Calls Tryz.prog 167 #[.slice (some ⟨g, off, none⟩) n c, .int .i64 (a : Int), .int .i64 (b : Int), cmpV] w fun e w' => e = .returned (.tuple #[]) ∧ ∃ M, Srtd pcl U M ∧ Row w' g cap (P ++ (M ++ Q)) ∧ w.grownBy w' (some g) := by
  unfold cmpV
  obtain ⟨N, hN⟩ : ∃ N, U.length = N := ⟨_, rfl⟩
  rw [hN] at hb
  have HUl := Lib.hid hN
  have HPl := Lib.hid hP
  have HR0 := Lib.hid hrow
  clear hN hP hrow
  go_enter Tryz.func167, Tryz.ntmps167
  go_wp2
  go_loopw [8] (fun s wr => ∃ (i k : Nat) (S : List Nat), s = .int .i64 (i : Int) ∧ Hid (i = a + k) ∧ 1 ≤ k ∧ (k ≤ N ∨ k = 1) ∧ Hid (Srtd pcl (U.take k) S) ∧ Hid (Row wr g cap (P ++ (S ++ (U.drop k ++ Q)))) ∧ w.grownBy wr (some g)) (fun s _ => b - (intOf s).toNat)
  case atStart => exact ⟨a + 1, 1, U.take 1, by go_num, Lib.hid rfl, by omega, .inr rfl, Lib.hid (Srtd.self (asc_short (by rw [List.length_take]; omega))), Lib.hid (HR0.out.same (by rw [← List.append_assoc (U.take 1), List.take_append_drop])), grown_refl _ _⟩
  case round =>
    obtain ⟨i, k, S, rfl, Hik, hk1, hkN, HS, HR, hg⟩ := hrel
    by_cases hlt : i < b
    · have t1 : decide ((i : Int) < (b : Int)) = true := by simp; omega
      have hkN : k < N := by have := Hik.out; omega
      obtain ⟨y, hy⟩ := get_some (l := U) (i := k) (by have := HUl.out; omega)
      have hUk : U.drop k = y :: U.drop (k + 1) := by
        obtain ⟨h1, h2⟩ := List.getElem?_eq_some_iff.1 hy
        rw [List.drop_eq_getElem_cons h1, h2]
      have hSl : S.length = k := by rw [HS.out.length, List.length_take]; have := HUl.out; omega
      have HTake := Lib.hid (take_next hy)
      have HSl := Lib.hid hSl
      have HR1 : Hid (Row wr g cap (P ++ (S ++ y :: ([] ++ (U.drop (k + 1) ++ Q))))) := Lib.hid (HR.out.same (by rw [hUk]; simp))
      have HK : Hid (∀ S1 S2 w', S = S1 ++ S2 → (∀ u ∈ S1, pcl u ≤ pcl y) → (∀ u ∈ S2, pcl y < pcl u) → Row w' g cap (P ++ (S1 ++ y :: (S2 ++ (U.drop (k + 1) ++ Q)))) →
          ∃ S', Srtd pcl (U.take (k + 1)) S' ∧ Row w' g cap (P ++ (S' ++ (U.drop (k + 1) ++ Q)))) := Lib.hid (by
        intro S1 S2 w' hS h1 h2 hr
        refine ⟨S1 ++ y :: S2, ?_, hr.same (by simp)⟩
        rw [HTake.out]
        refine HS.out.then_ ?_
        rw [hS]
        exact srt_right (by rw [← hS]; exact HS.out.1) h1 h2)
      clear hUk hy hSl HR HR0
      go_wp2
      go_loopw [9] (fun s wr2 => ∃ (j : Nat) (S1 S2 : List Nat), s = .int .i64 (j : Int) ∧ Hid (S = S1 ++ S2) ∧ Hid (j = a + S1.length) ∧ j ≤ i ∧ Hid (∀ u ∈ S2, pcl y < pcl u) ∧ Hid (Row wr2 g cap (P ++ (S1 ++ y :: (S2 ++ (U.drop (k + 1) ++ Q))))) ∧ w.grownBy wr2 (some g)) (fun s _ => (intOf s).toNat)
      case atStart => exact ⟨i, S, [], rfl, Lib.hid (by simp), Lib.hid (by rw [HSl.out]; exact Hik.out), Nat.le_refl _, Lib.hid (by simp), HR1, hg⟩
      case round =>
        obtain ⟨j, S1, S2, rfl, HSS, Hjl, hji, HG, HR2, hg2⟩ := hrel
        have hjl := Hjl.out
        by_cases hj0 : a < j
        · have t2 : decide ((a : Int) < (j : Int)) = true := by simp; omega
          have t2' : decide (a < j) = true := by simpa using hj0
          have hne : S1 ≠ [] := fun e => by rw [e] at hjl; simp at hjl; omega
          obtain ⟨S0, x, hS1⟩ : ∃ S0 x, S1 = S0 ++ [x] := ⟨S1.dropLast, S1.getLast hne, (List.dropLast_concat_getLast hne).symm⟩
          subst hS1
          obtain ⟨p, rfl⟩ : ∃ p, j = p + 1 := ⟨j - 1, by omega⟩
          have ep : ((p + 1 : Nat) : Int) - 1 = (p : Int) := by omega
          have g1 : decide ((p : Int) + 1 > (a : Int)) = true := decide_eq_true (by omega)
          have g2 : decide ((a : Int) < (p : Int) + 1) = true := decide_eq_true (by omega)
          have g3 : decide (a < p + 1) = true := decide_eq_true (by omega)
          have g4 : decide (a ≤ p) = true := decide_eq_true (by omega)
          have g5 : (a : Int) < (p : Int) + 1 := by omega
          have hS0 : S0.length + a = p := by rw [List.length_append, List.length_singleton] at hjl; omega
          have l3 := HPl.out
          obtain ⟨cu, hb1, hcs, hT⟩ := HR2.out
          obtain ⟨NN, hNN⟩ : ∃ NN, (P ++ (S0 ++ [x] ++ y :: (S2 ++ (U.drop (k + 1) ++ Q)))).length = NN := ⟨_, rfl⟩
          have HNN : Hid ((P ++ (S0 ++ y :: ((x :: S2) ++ (U.drop (k + 1) ++ Q)))).length = NN) := Lib.hid (by rw [← hNN]; simp)
          rw [hNN] at hT
          have hT1 : cu.toList.take NN = ((P ++ S0) ++ x :: ([] ++ y :: (S2 ++ (U.drop (k + 1) ++ Q)))).map nv := by rw [hT]; simp
          have hpl : off + p = (P ++ S0).length := by rw [List.length_append]; omega
          have hql : off + (p + 1) = (P ++ S0).length + 1 + ([] : List Nat).length := by rw [List.length_append, List.length_nil]; omega
          have dx : wr.cell? ⟨g, off + p, none⟩ = some (.int .i64 (x : Int)) := (hb1.cell _).trans (swap_fst hT1 hpl)
          have dy : wr.cell? ⟨g, off + (p + 1), none⟩ = some (.int .i64 (y : Int)) := (hb1.cell _).trans (swap_snd hT1 hql)
          have z0 : (p : Int) < (n : Int) := by omega
          have z1 : ((p + 1 : Nat) : Int) < (n : Int) := by omega
          have HC := Lib.hid (fun W => byClass_any y x W)
          obtain ⟨K, hK⟩ : ∃ K, cmpN (pcl y) (pcl x) = K := ⟨_, rfl⟩
          rw [hK] at HC
          by_cases hyx : pcl y < pcl x
          · have t3 : decide (K < 0) = true := by rw [← hK]; exact cmpN_neg hyx
            have HG2 : Hid (∀ u ∈ x :: S2, pcl y < pcl u) := Lib.hid fun u hu => by
              rcases List.mem_cons.1 hu with rfl | hu
              · exact hyx
              · exact HG.out u hu
            have HSS2 : Hid (S = S0 ++ x :: S2) := Lib.hid (by rw [HSS.out]; simp)
            have HSw : Hid (((cu.setIfInBounds (off + (p + 1)) (nv x)).setIfInBounds (off + p) (nv y)).toList.take NN = (P ++ (S0 ++ y :: ((x :: S2) ++ (U.drop (k + 1) ++ Q)))).map nv) := Lib.hid (by
              rw [swap_mem_back hT1 hpl hql]; simp)
            have f0 : wr.frozen? ⟨g, off + p, none⟩ = false := hb1.free _
            have f1 : wr.frozen? ⟨g, off + (p + 1), none⟩ = false := hb1.free _
            have hne2 : off + p ≠ off + (p + 1) := by omega
            have hpj : p < p + 1 := by omega
            have hpi : p ≤ i := by omega
            have HpS : Hid (p = a + S0.length) := Lib.hid (by omega)
            clear hK hyx hT hT1 hpl hql hne hjl hNN HR2 l3 hS0
            go_wp2
            go_big_quiet (first | (go_at_call_of 142 y; exact Calls.quiet_of (HC.out _)))
            go_wp2
            go_region
            all_goals
              go_wp2
              go_roundw
              case rel => exact ⟨p, S0, x :: S2, by go_num, HSS2, HpS, hpi, HG2, Lib.hid ⟨_, ((hb1.drewN _).put (off + (p + 1)) (nv x)).put (off + p) (nv y), by simp [hcs], by rw [HNN.out]; exact HSw.out⟩, grown_set (grown_set (grown_drewN hg2 _) _ _) _ _⟩
              case measure => first | (simp [intOf]; done) | (simp [intOf]; omega)
          · have t3 : decide (K < 0) = false := by rw [← hK]; exact cmpN_pos hyx
            have HE : Hid (∃ S', Srtd pcl (U.take (k + 1)) S' ∧ Row wr g cap (P ++ (S' ++ (U.drop (k + 1) ++ Q)))) := Lib.hid (HK.out (S0 ++ [x]) S2 wr HSS.out (asc_last (by have := HS.out.1; rw [HSS.out] at this; exact (asc_app.1 this).1) (by omega)) HG.out HR2.out)
            clear hK hyx hT hT1 hpl hql hne hjl hNN l3 hS0
            go_wp2
            go_big_quiet (first | (go_at_call_of 142 y; exact Calls.quiet_of (HC.out _)))
            go_wp2
            go_roundw
            case rel =>
              obtain ⟨S', e1, e2⟩ := HE.out
              exact ⟨i + 1, k + 1, S', by go_num, Lib.hid (by have := Hik.out; omega), by omega, .inl (by omega), Lib.hid e1, Lib.hid (e2.drewN _), grown_drewN hg2 _⟩
            case measure => simp [intOf]; omega
        · have t2 : decide ((a : Int) < (j : Int)) = false := by simp; omega
          have t2' : decide (a < j) = false := by simpa using hj0
          have hS1 : S1 = [] := List.length_eq_zero_iff.1 (by omega)
          have HE : Hid (∃ S', Srtd pcl (U.take (k + 1)) S' ∧ Row wr g cap (P ++ (S' ++ (U.drop (k + 1) ++ Q)))) := Lib.hid (HK.out S1 S2 wr HSS.out (by rw [hS1]; simp) HG.out HR2.out)
          clear hS1 hj0 hjl
          go_wp2
          go_big_quiet (fail)
          go_wp2
          go_roundw
          case rel =>
            obtain ⟨S', e1, e2⟩ := HE.out
            exact ⟨i + 1, k + 1, S', by go_num, Lib.hid (by have := Hik.out; omega), by omega, .inl (by omega), Lib.hid e1, Lib.hid (e2.drewN _), grown_drewN hg2 _⟩
          case measure => simp [intOf]; omega
    · have HE : Hid (Srtd pcl U S ∧ Row wr g cap (P ++ (S ++ Q))) := Lib.hid (by
        have h3 := Hik.out
        have h1 := HS.out
        have h2 := HR.out
        rw [List.take_of_length_le (by rw [HUl.out]; omega)] at h1
        rw [List.drop_of_length_le (by rw [HUl.out]; omega)] at h2
        exact ⟨h1, h2⟩)
      go_wp2
      go_end0
      exact ⟨rfl, S, HE.out.1, HE.out.2, hg⟩

end Go.Proofs.YtbnchnbblchmnaaGreatDoor

namespace Go.Proofs.YtbnchnbblchmnaaGreatDoor
open Go.RowKit

/-- What merging promises at these arguments. -/
def SymC (g off n c cap a m b : Nat) (P U V Q : List Nat) (w : World) : Prop :=
  Calls Tryz.prog 168 #[.slice (some ⟨g, off, none⟩) n c, .int .i64 (a : Int), .int .i64 (m : Int), .int .i64 (b : Int), cmpV] w fun e w' => e = .returned (.tuple #[]) ∧ ∃ M, Srtd pcl (U ++ V) M ∧ Row w' g cap (P ++ (M ++ Q)) ∧ w.grownBy w' (some g)

theorem Row.cell {w : World} {g cap i x : Nat} {L : List Nat} (h : Row w g cap L) (hx : L[i]? = some x) : w.cell? ⟨g, i, none⟩ = some (.int .i64 (x : Int)) := by
  obtain ⟨cu, h1, _, h3⟩ := h
  exact (h1.cell i).trans (take_cell h3 hx)
theorem at_mid {P R : List Nat} {x i : Nat} (h : i = P.length) : (P ++ x :: R)[i]? = some x := by subst h; simp
theorem at_in {P V R : List Nat} {i t x : Nat} (h : i = P.length + t) (hx : V[t]? = some x) : (P ++ (V ++ R))[i]? = some x := by
  have := get_lt hx
  subst h
  rw [get_right (by omega), Nat.add_sub_cancel_left, get_left this]
  exact hx
theorem dropN_at {V : List Nat} {r z : Nat} (h : V[r]? = some z) : V.drop r = z :: V.drop (r + 1) := by
  obtain ⟨h1, h2⟩ := List.getElem?_eq_some_iff.1 h
  rw [List.drop_eq_getElem_cons h1, h2]
theorem take_mem_get {l : List Nat} {s u : Nat} (h : u ∈ l.take s) : ∃ i, i < s ∧ l[i]? = some u := mem_take_get h

set_option maxRecDepth 100000 in
set_option maxHeartbeats 6400000 in
theorem sym_left (g off n c cap a m b x : Nat) (P V Q : List Nat) (w : World) (hP : P.length = off + a) (hm : a + 1 = m) (hb : m + V.length = b) (hn : b ≤ n) (hsz : n ≤ 1000000000) (hV : Asc pcl V)
    (hrow : Row w g cap (P ++ ([x] ++ (V ++ Q)))) : SymC g off n c cap a m b P [x] V Q w := by
  unfold SymC cmpV
  obtain ⟨v, hv⟩ : ∃ v, V.length = v := ⟨_, rfl⟩
  rw [hv] at hb
  have HVl := Lib.hid hv
  have HPl := Lib.hid hP
  have HV := Lib.hid hV
  have HR := Lib.hid hrow
  have hbm : m ≤ b := by omega
  have ham : a < m := by omega
  have HB : Hid (m + v = b) := Lib.hid hb
  have HM : Hid (a + 1 = m) := Lib.hid hm
  have em : (m : Int) - (a : Int) = 1 := by omega
  have dx : w.cell? ⟨g, off + a, none⟩ = some (.int .i64 (x : Int)) := hrow.cell (at_mid hP.symm)
  clear hv hP hV hrow hb hm
  go_enter Tryz.func168, Tryz.ntmps168
  go_wp2
  go_loopw [10, 11, 12] (fun s10 s11 _ wr => ∃ i j q : Nat, s10 = .int .i64 (i : Int) ∧ s11 = .int .i64 (j : Int) ∧ m ≤ i ∧ i ≤ j ∧ j ≤ b ∧ wr = w.drewN q ∧
    Hid ((∀ t y, V[t]? = some y → m + t < i → pcl y < pcl x) ∧ (∀ t y, V[t]? = some y → j ≤ m + t → pcl x ≤ pcl y))) (fun s10 s11 _ _ => (intOf s11).toNat - (intOf s10).toNat)
  case atStart => exact ⟨m, b, 0, rfl, rfl, Nat.le_refl _, hbm, Nat.le_refl _, rfl, Lib.hid ⟨fun t y _ h => by omega, fun t y h h2 => by have := get_lt h; have := HVl.out; have := HB.out; omega⟩⟩
  case round =>
    obtain ⟨i, j, q, rfl, rfl, hmi, hij, hjb, rfl, HI⟩ := hrel
    by_cases hlt : i < j
    · have t0 : decide ((i : Int) < (j : Int)) = true := by simp; omega
      obtain ⟨h, hh⟩ : ∃ h, h = (i + j) / 2 := ⟨_, rfl⟩
      have eh : ((i : Int) + (j : Int)) / 2 = (h : Int) := by omega
      have hih : i ≤ h := by omega
      have hhj : h < j := by omega
      have hhn : (h : Int) < (n : Int) := by omega
      have han : (a : Int) < (n : Int) := by omega
      obtain ⟨y, hy⟩ := get_some (l := V) (i := h - m) (by have := HVl.out; have := HB.out; omega)
      have dy : w.cell? ⟨g, off + h, none⟩ = some (.int .i64 (y : Int)) := HR.out.cell (by
        have e : P ++ ([x] ++ (V ++ Q)) = (P ++ [x]) ++ (V ++ Q) := by simp
        rw [e]
        exact at_in (t := h - m) (by have := HPl.out; have := HM.out; simp; omega) hy)
      have HC := Lib.hid (fun W => byClass_any y x W)
      obtain ⟨K, hK⟩ : ∃ K, cmpN (pcl y) (pcl x) = K := ⟨_, rfl⟩
      rw [hK] at HC
      by_cases hyx : pcl y < pcl x
      · have t3 : decide (K < 0) = true := by rw [← hK]; exact cmpN_neg hyx
        have HI2 : Hid ((∀ t y, V[t]? = some y → m + t < h + 1 → pcl y < pcl x) ∧ (∀ t y, V[t]? = some y → j ≤ m + t → pcl x ≤ pcl y)) := Lib.hid ⟨fun t z hz ht => by
          have := asc_get HV.out hz hy (by omega)
          omega, HI.out.2⟩
        clear hK hyx hy hh
        go_wp2
        try rw [eh]
        go_big_quiet (first | (go_at_call_of 142 y; first | exact Calls.quiet_of (HC.out _) | exact quiet_add (HC.out _)))
        go_wp2
        go_roundw
        case rel => exact ⟨h + 1, j, q + nq, by go_num, rfl, by omega, by omega, hjb, by first | rfl | rw [World.drewN_drewN], HI2⟩
        case measure => simp [intOf]; omega
      · have t3 : decide (K < 0) = false := by rw [← hK]; exact cmpN_pos hyx
        have HI2 : Hid ((∀ t y, V[t]? = some y → m + t < i → pcl y < pcl x) ∧ (∀ t y, V[t]? = some y → h ≤ m + t → pcl x ≤ pcl y)) := Lib.hid ⟨HI.out.1, fun t z hz ht => by
          have := asc_get HV.out hy hz (by omega)
          omega⟩
        clear hK hyx hy hh
        go_wp2
        try rw [eh]
        go_big_quiet (first | (go_at_call_of 142 y; first | exact Calls.quiet_of (HC.out _) | exact quiet_add (HC.out _)))
        go_wp2
        go_roundw
        case rel => exact ⟨i, h, q + nq, rfl, by go_num, hmi, hih, by omega, by first | rfl | rw [World.drewN_drewN], HI2⟩
        case measure => simp [intOf]; omega
    · obtain rfl : i = j := by omega
      obtain ⟨l, hl⟩ : ∃ l, l = i - m := ⟨_, rfl⟩
      have HL : Hid (i = m + l) := Lib.hid (by omega)
      have hlv : l ≤ v := by have := HB.out; omega
      have HSrt : Hid (Srtd pcl ([x] ++ V) (V.take l ++ x :: V.drop l)) := Lib.hid (by
        have h := srt_left (cl := pcl) (x := x) (V1 := V.take l) (V2 := V.drop l) (by rw [List.take_append_drop]; exact HV.out) (fun u hu => by
          obtain ⟨t, ht, htu⟩ := mem_take_get hu
          exact HI.out.1 t u htu (by have := HL.out; omega)) (fun u hu => by
          obtain ⟨t, ht, htu⟩ := mem_drop_get hu
          exact HI.out.2 t u htu (by have := HL.out; omega))
        rw [List.take_append_drop] at h
        exact h)
      have HR1 : Hid (Row (w.drewN q) g cap (P ++ (V.take 0 ++ x :: (V.drop 0 ++ Q)))) := Lib.hid (HR.out.same (by simp))
      obtain ⟨i1, hi1⟩ : ∃ i1, i1 = i - 1 := ⟨_, rfl⟩
      have ei : (i : Int) - 1 = (i1 : Int) := by omega
      have HI1 : Hid (i1 = a + l) := Lib.hid (by have := HL.out; have := HM.out; omega)
      clear hl hi1
      go_wp2
      go_loopw [13] (fun s wr => ∃ (k r : Nat), s = .int .i64 (k : Int) ∧ Hid (k = a + r) ∧ r ≤ l ∧ Hid (Row wr g cap (P ++ (V.take r ++ x :: (V.drop r ++ Q)))) ∧ w.grownBy wr (some g)) (fun s _ => i1 - (intOf s).toNat)
      case atStart => exact ⟨a, 0, by go_num, Lib.hid rfl, Nat.zero_le _, HR1, grown_drewN (grown_refl _ _) _⟩
      case round =>
        obtain ⟨k, r, rfl, Hk, hrl, HR2, hg⟩ := hrel
        have hk := Hk.out
        have hi1 := HI1.out
        by_cases hki : k < i1
        · have t5 : decide ((k : Int) < (i1 : Int)) = true := by simp; omega
          obtain ⟨z, hz⟩ := get_some (l := V) (i := r) (by have := HVl.out; omega)
          obtain ⟨k1, hk1⟩ : ∃ k1, k1 = k + 1 := ⟨_, rfl⟩
          have ek : (k : Int) + 1 = (k1 : Int) := by omega
          obtain ⟨cu, hb1, hcs, hT⟩ := HR2.out
          obtain ⟨NN, hNN⟩ : ∃ NN, (P ++ (V.take r ++ x :: (V.drop r ++ Q))).length = NN := ⟨_, rfl⟩
          have hVr := dropN_at hz
          have HNN : Hid ((P ++ (V.take (r + 1) ++ x :: (V.drop (r + 1) ++ Q))).length = NN) := Lib.hid (by rw [← hNN, hVr, take_next hz]; simp)
          rw [hNN] at hT
          have hT1 : cu.toList.take NN = ((P ++ V.take r) ++ x :: ([] ++ z :: (V.drop (r + 1) ++ Q))).map nv := by rw [hT, hVr]; simp
          have l3 := HPl.out
          have hl5 : (V.take r).length = r := by rw [List.length_take]; have := HVl.out; omega
          have hpl : off + k = (P ++ V.take r).length := by rw [List.length_append]; omega
          have hql : off + k1 = (P ++ V.take r).length + 1 + ([] : List Nat).length := by rw [List.length_append, List.length_nil]; omega
          have d0 : wr.cell? ⟨g, off + k, none⟩ = some (.int .i64 (x : Int)) := (hb1.cell _).trans (swap_fst hT1 hpl)
          have d1 : wr.cell? ⟨g, off + k1, none⟩ = some (.int .i64 (z : Int)) := (hb1.cell _).trans (swap_snd hT1 hql)
          have f0 : wr.frozen? ⟨g, off + k, none⟩ = false := hb1.free _
          have f1 : wr.frozen? ⟨g, off + k1, none⟩ = false := hb1.free _
          have z0 : (k : Int) < (n : Int) := by omega
          have z1 : (k1 : Int) < (n : Int) := by omega
          have hne2 : off + k ≠ off + k1 := by omega
          have HSw : Hid (((cu.setIfInBounds (off + k) (nv z)).setIfInBounds (off + k1) (nv x)).toList.take NN = (P ++ (V.take (r + 1) ++ x :: (V.drop (r + 1) ++ Q))).map nv) := Lib.hid (by
            rw [swap_mem hT1 hpl hql, take_next hz]; simp)
          have Hk2 : Hid (k1 = a + (r + 1)) := Lib.hid (by omega)
          have hrl2 : r + 1 ≤ l := by omega
          have hk1k : k < k1 := by omega
          clear hT hT1 hpl hql hNN HR2 l3 hl5 hVr hz hk1 hk hi1
          go_wp2
          go_region
          all_goals
            go_wp2
            go_roundw
            case rel => exact ⟨k1, r + 1, by go_num, Hk2, hrl2, Lib.hid ⟨_, ((hb1.drewN _).put (off + k) (nv z)).put (off + k1) (nv x), by simp [hcs], by rw [HNN.out]; exact HSw.out⟩, grown_set (grown_set (grown_drewN hg _) _ _) _ _⟩
            case measure => simp [intOf]; omega
        · have t5 : decide ((k : Int) < (i1 : Int)) = false := by simp; omega
          obtain rfl : r = l := by omega
          clear hk hi1
          go_wp2
          (try simp only [Exit.inBlock, Exit.then]); refine bodyPost_ret (results_none rfl _ _ _) rfl ?_
          exact ⟨rfl, _, HSrt.out, HR2.out.same (by simp), hg⟩


end Go.Proofs.YtbnchnbblchmnaaGreatDoor

namespace Go.Proofs.YtbnchnbblchmnaaGreatDoor
open Go.RowKit

set_option maxRecDepth 100000 in
set_option maxHeartbeats 6400000 in
theorem sym_right (g off n c cap a m b y : Nat) (P U Q : List Nat) (w : World) (hP : P.length = off + a) (hU2 : 1 < U.length) (hm : a + U.length = m) (hb : m + 1 = b) (hn : b ≤ n) (hsz : n ≤ 1000000000) (hU : Asc pcl U)
    (hrow : Row w g cap (P ++ (U ++ ([y] ++ Q)))) : SymC g off n c cap a m b P U [y] Q w := by
  unfold SymC cmpV
  obtain ⟨u, hu⟩ : ∃ u, U.length = u := ⟨_, rfl⟩
  rw [hu] at hm hU2
  have HUl := Lib.hid hu
  have HPl := Lib.hid hP
  have HU := Lib.hid hU
  have HR := Lib.hid hrow
  have ham : a ≤ m := by omega
  have hmb : m < b := by omega
  have HB : Hid (m + 1 = b) := Lib.hid hb
  have HM : Hid (a + u = m) := Lib.hid hm
  have em : (b : Int) - (m : Int) = 1 := by omega
  have ea : ((m : Int) - (a : Int) == 1) = false := eqb_false (by omega)
  have ea2 : ¬ (m : Int) - (a : Int) = 1 := by omega
  have dy : w.cell? ⟨g, off + m, none⟩ = some (.int .i64 (y : Int)) := hrow.cell (by
    have e : P ++ (U ++ ([y] ++ Q)) = (P ++ U) ++ y :: Q := by simp
    rw [e]
    exact at_mid (by rw [List.length_append]; omega))
  clear hu hP hU hrow hb hm
  go_enter Tryz.func168, Tryz.ntmps168
  go_wp2
  go_loopw [14, 15, 16] (fun s14 s15 _ wr => ∃ i j q : Nat, s14 = .int .i64 (i : Int) ∧ s15 = .int .i64 (j : Int) ∧ a ≤ i ∧ i ≤ j ∧ j ≤ m ∧ wr = w.drewN q ∧
    Hid ((∀ t x, U[t]? = some x → a + t < i → pcl x ≤ pcl y) ∧ (∀ t x, U[t]? = some x → j ≤ a + t → pcl y < pcl x))) (fun s14 s15 _ _ => (intOf s15).toNat - (intOf s14).toNat)
  case atStart => exact ⟨a, m, 0, rfl, rfl, Nat.le_refl _, ham, Nat.le_refl _, rfl, Lib.hid ⟨fun t x _ h => by omega, fun t x h h2 => by have := get_lt h; have := HUl.out; have := HM.out; omega⟩⟩
  case round =>
    obtain ⟨i, j, q, rfl, rfl, hai, hij, hjm, rfl, HI⟩ := hrel
    by_cases hlt : i < j
    · have t0 : decide ((i : Int) < (j : Int)) = true := by simp; omega
      obtain ⟨h, hh⟩ : ∃ h, h = (i + j) / 2 := ⟨_, rfl⟩
      have eh : ((i : Int) + (j : Int)) / 2 = (h : Int) := by omega
      have hih : i ≤ h := by omega
      have hhj : h < j := by omega
      have hhn : (h : Int) < (n : Int) := by omega
      have hmn : (m : Int) < (n : Int) := by omega
      obtain ⟨x, hx⟩ := get_some (l := U) (i := h - a) (by have := HUl.out; have := HM.out; omega)
      have dx : w.cell? ⟨g, off + h, none⟩ = some (.int .i64 (x : Int)) := HR.out.cell (at_in (t := h - a) (by have := HPl.out; omega) hx)
      have HC := Lib.hid (fun W => byClass_any y x W)
      obtain ⟨K, hK⟩ : ∃ K, cmpN (pcl y) (pcl x) = K := ⟨_, rfl⟩
      rw [hK] at HC
      by_cases hyx : pcl y < pcl x
      · have t3 : decide (K < 0) = true := by rw [← hK]; exact cmpN_neg hyx
        have HI2 : Hid ((∀ t x, U[t]? = some x → a + t < i → pcl x ≤ pcl y) ∧ (∀ t x, U[t]? = some x → h ≤ a + t → pcl y < pcl x)) := Lib.hid ⟨HI.out.1, fun t z hz ht => by
          have := asc_get HU.out hx hz (by omega)
          omega⟩
        clear hK hyx hx hh
        go_wp2
        try rw [eh]
        go_big_quiet (first | (go_at_call_of 142 y; first | exact Calls.quiet_of (HC.out _) | exact quiet_add (HC.out _)))
        go_wp2
        go_roundw
        case rel => exact ⟨i, h, q + nq, rfl, by go_num, hai, hih, by omega, by first | rfl | rw [World.drewN_drewN], HI2⟩
        case measure => simp [intOf]; omega
      · have t3 : decide (K < 0) = false := by rw [← hK]; exact cmpN_pos hyx
        have HI2 : Hid ((∀ t x, U[t]? = some x → a + t < h + 1 → pcl x ≤ pcl y) ∧ (∀ t x, U[t]? = some x → j ≤ a + t → pcl y < pcl x)) := Lib.hid ⟨fun t z hz ht => by
          have := asc_get HU.out hz hx (by omega)
          omega, HI.out.2⟩
        clear hK hyx hx hh
        go_wp2
        try rw [eh]
        go_big_quiet (first | (go_at_call_of 142 y; first | exact Calls.quiet_of (HC.out _) | exact quiet_add (HC.out _)))
        go_wp2
        go_roundw
        case rel => exact ⟨h + 1, j, q + nq, by go_num, rfl, by omega, by omega, hjm, by first | rfl | rw [World.drewN_drewN], HI2⟩
        case measure => simp [intOf]; omega
    · obtain rfl : i = j := by omega
      obtain ⟨l, hl⟩ : ∃ l, l = i - a := ⟨_, rfl⟩
      have HL : Hid (i = a + l) := Lib.hid (by omega)
      have hlu : l ≤ u := by have := HM.out; omega
      have HSrt : Hid (Srtd pcl (U ++ [y]) (U.take l ++ y :: U.drop l)) := Lib.hid (by
        have h := srt_right (cl := pcl) (y := y) (U1 := U.take l) (U2 := U.drop l) (by rw [List.take_append_drop]; exact HU.out) (fun v hv => by
          obtain ⟨t, ht, htu⟩ := mem_take_get hv
          exact HI.out.1 t v htu (by have := HL.out; omega)) (fun v hv => by
          obtain ⟨t, ht, htu⟩ := mem_drop_get hv
          exact HI.out.2 t v htu (by have := HL.out; omega))
        rw [List.take_append_drop] at h
        exact h)
      have HR1 : Hid (Row (w.drewN q) g cap (P ++ (U.take u ++ y :: (U.drop u ++ Q)))) := Lib.hid (HR.out.same (by
        rw [List.take_of_length_le (Nat.le_of_eq HUl.out), List.drop_of_length_le (Nat.le_of_eq HUl.out)]; simp))
      clear hl
      go_wp2
      go_loopw [17] (fun s wr => ∃ (k r : Nat), s = .int .i64 (k : Int) ∧ Hid (k = a + r) ∧ l ≤ r ∧ r ≤ u ∧ Hid (Row wr g cap (P ++ (U.take r ++ y :: (U.drop r ++ Q)))) ∧ w.grownBy wr (some g)) (fun s _ => (intOf s).toNat)
      case atStart => exact ⟨m, u, by go_num, Lib.hid HM.out.symm, hlu, Nat.le_refl _, HR1, grown_drewN (grown_refl _ _) _⟩
      case round =>
        obtain ⟨k, r, rfl, Hk, hrl, hru, HR2, hg⟩ := hrel
        have hk := Hk.out
        have hl := HL.out
        have hm := HM.out
        by_cases hki : i < k
        · obtain ⟨p, rfl⟩ : ∃ p, k = p + 1 := ⟨k - 1, by omega⟩
          obtain ⟨r0, rfl⟩ : ∃ r0, r = r0 + 1 := ⟨r - 1, by omega⟩
          have ep : ((p + 1 : Nat) : Int) - 1 = (p : Int) := by omega
          have g1 : decide ((p : Int) + 1 > (i : Int)) = true := decide_eq_true (by omega)
          have g2 : decide ((i : Int) < (p : Int) + 1) = true := decide_eq_true (by omega)
          have g3 : decide (i < p + 1) = true := decide_eq_true (by omega)
          have g4 : decide (i ≤ p) = true := decide_eq_true (by omega)
          have g5 : (i : Int) < (p : Int) + 1 := by omega
          obtain ⟨z, hz⟩ := get_some (l := U) (i := r0) (by have := HUl.out; omega)
          obtain ⟨cu, hb1, hcs, hT⟩ := HR2.out
          obtain ⟨NN, hNN⟩ : ∃ NN, (P ++ (U.take (r0 + 1) ++ y :: (U.drop (r0 + 1) ++ Q))).length = NN := ⟨_, rfl⟩
          have hUr := dropN_at hz
          have HNN : Hid ((P ++ (U.take r0 ++ y :: (U.drop r0 ++ Q))).length = NN) := Lib.hid (by rw [← hNN, hUr, take_next hz]; simp)
          rw [hNN] at hT
          have hT1 : cu.toList.take NN = ((P ++ U.take r0) ++ z :: ([] ++ y :: (U.drop (r0 + 1) ++ Q))).map nv := by rw [hT, take_next hz]; simp
          have l3 := HPl.out
          have hl5 : (U.take r0).length = r0 := by rw [List.length_take]; have := HUl.out; omega
          have hpl : off + p = (P ++ U.take r0).length := by rw [List.length_append]; omega
          have hql : off + (p + 1) = (P ++ U.take r0).length + 1 + ([] : List Nat).length := by rw [List.length_append, List.length_nil]; omega
          have d0 : wr.cell? ⟨g, off + p, none⟩ = some (.int .i64 (z : Int)) := (hb1.cell _).trans (swap_fst hT1 hpl)
          have d1 : wr.cell? ⟨g, off + (p + 1), none⟩ = some (.int .i64 (y : Int)) := (hb1.cell _).trans (swap_snd hT1 hql)
          have f0 : wr.frozen? ⟨g, off + p, none⟩ = false := hb1.free _
          have f1 : wr.frozen? ⟨g, off + (p + 1), none⟩ = false := hb1.free _
          have z0 : (p : Int) < (n : Int) := by omega
          have z1 : ((p + 1 : Nat) : Int) < (n : Int) := by omega
          have hne2 : off + p ≠ off + (p + 1) := by omega
          have HSw : Hid (((cu.setIfInBounds (off + (p + 1)) (nv z)).setIfInBounds (off + p) (nv y)).toList.take NN = (P ++ (U.take r0 ++ y :: (U.drop r0 ++ Q))).map nv) := Lib.hid (by
            rw [swap_mem_back hT1 hpl hql, hUr]; simp)
          have Hk2 : Hid (p = a + r0) := Lib.hid (by omega)
          have hlr : l ≤ r0 := by omega
          have hru2 : r0 ≤ u := by omega
          clear hT hT1 hpl hql hNN HR2 l3 hl5 hUr hz hk hl hm
          go_wp2
          go_region
          all_goals
            go_wp2
            go_roundw
            case rel => exact ⟨p, r0, by go_num, Hk2, hlr, hru2, Lib.hid ⟨_, ((hb1.drewN _).put (off + (p + 1)) (nv z)).put (off + p) (nv y), by simp [hcs], by rw [HNN.out]; exact HSw.out⟩, grown_set (grown_set (grown_drewN hg _) _ _) _ _⟩
            case measure => first | (simp [intOf]; done) | (simp [intOf]; omega)
        · have t5 : decide ((i : Int) < (k : Int)) = false := by simp; omega
          obtain rfl : r = l := by omega
          clear hk hl hm
          go_wp2
          (try simp only [Exit.inBlock, Exit.then]); refine bodyPost_ret (results_none rfl _ _ _) rfl ?_
          exact ⟨rfl, _, HSrt.out, HR2.out.same (by simp), hg⟩

end Go.Proofs.YtbnchnbblchmnaaGreatDoor
