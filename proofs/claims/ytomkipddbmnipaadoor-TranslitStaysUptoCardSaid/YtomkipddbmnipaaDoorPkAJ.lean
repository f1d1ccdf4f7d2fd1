/-
  The library's insertion sort, over rows of rules.
  The library's merging of two sorted parts, one of which has a single element.
  The library's merging of two sorted parts, the second of which has a single element.
-/
import Derived.Test.YtomkipddbmnipaaDoorPkAI
namespace Go.Proofs.YtomkipddbmnipaaDoor
open Go.RowKit Go.Sort

section
variable {cl : Nat → Nat}
theorem Srtd.then_ {l r m m' : List Nat} (h : Srtd cl l m) (h2 : Srtd cl (m ++ r) m') : Srtd cl (l ++ r) m' := ⟨h2.1, (h.2.app (Stab.refl r)).trans h2.2⟩
theorem asc_short {l : List Nat} (h : l.length ≤ 1) : Asc cl l := by
  match l, h with
  | [], _ => exact asc_nil
  | [x], _ => exact asc_one x
theorem asc_last {S : List Nat} {x y : Nat} (h : Asc cl (S ++ [x])) (hx : cl x ≤ cl y) : ∀ u ∈ S ++ [x], cl u ≤ cl y := by
  intro u hu
  rcases List.mem_append.1 hu with hu | hu
  · have := (asc_app.1 h).2.2 u hu x (List.mem_singleton.2 rfl)
    omega
  · rw [List.mem_singleton.1 hu]; exact hx
end
/-- What the sort asks of the comparison: in every world that differs from w in the row g and in new blocks alone. -/
def CmpOk (tab : Nat → RuleL) (cl : Nat → Nat) (bp g : Nat) (w : World) : Prop := ∀ W, w.grownBy W (some g) → ∀ (x y n : Nat) (os : Array Obj),
  Calls Tryd.prog 62 #[.agg #[.string (str (tab x).1), .string (str (tab x).2)], .agg #[.string (str (tab y).1), .string (str (tab y).2)], .pointer (some ⟨bp, 0, none⟩)] (grow (W.drewN n) os) fun e w' => e = .returned (.int .i64 (cmpN (cl x) (cl y))) ∧ ∃ q os', w' = grow ((grow (W.drewN n) os).drewN q) os'
theorem CmpOk.next {tab : Nat → RuleL} {cl : Nat → Nat} {bp g : Nat} {w w1 : World} (h : CmpOk tab cl bp g w) (hg : w.grownBy w1 (some g)) : CmpOk tab cl bp g w1 := fun W hW => h W (grown_trans hg hW)
theorem cmpOk_of {d : Bool} {tab : Nat → RuleL} (h : Short d tab) {bp g : Nat} {w : World} (hp : w.cell? ⟨bp, 0, none⟩ = some (sidesV d)) (hb : bp < w.heap.size) (hg : bp ≠ g) : CmpOk tab (cls d tab) bp g w := fun W hW x y n os =>
  byLen_any h bp x y W (hW.cell hp (fun e => hg (Option.some.inj e))) (Nat.lt_of_lt_of_le hb hW.size) n os
theorem grown_class {w w' : World} {g : Nat} (h : w.grownBy w' (some g)) (n : Nat) (os : Array Obj) : w.grownBy (grow (w'.drewN n) os) (some g) := grown_trans h (grown_below (grow_below n os) _)
section
variable {tab : Nat → RuleL} {w : World} {g cap i x : Nat} {L : List Nat}
theorem Row.class_ (h : Row tab w g cap L) (n : Nat) (os : Array Obj) : Row tab (grow (w.drewN n) os) g cap L := h.below (grow_below n os)
theorem Row.one (h : Row tab w g cap L) (hx : L[i]? = some x) (n : Nat) (os : Array Obj) : (grow (w.drewN n) os).cell? ⟨g, i * 2, none⟩ = some (.string (str (tab x).1)) := ((h.class_ n os).cells hx).1
theorem Row.two (h : Row tab w g cap L) (hx : L[i]? = some x) (n : Nat) (os : Array Obj) : (grow (w.drewN n) os).cell? ⟨g, i * 2 + 1, none⟩ = some (.string (str (tab x).2)) := ((h.class_ n os).cells hx).2
end
theorem at_mid {P R : List Nat} {x i : Nat} (h : i = P.length) : (P ++ x :: R)[i]? = some x := by subst h; simp
theorem at_mid2 {P M R : List Nat} {x y i : Nat} (h : i = P.length + 1 + M.length) : (P ++ x :: (M ++ y :: R))[i]? = some y := by
  have e : P ++ x :: (M ++ y :: R) = (P ++ x :: M) ++ y :: R := by simp
  rw [e]
  exact at_mid (by rw [h, List.length_append, List.length_cons]; omega)

/-- What the exchange leaves: the row with both exchanged, the first one stored first. -/
theorem Row.swap {tab : Nat → RuleL} {w : World} {g cap : Nat} {P M R : List Nat} {x y p q : Nat} (h : Row tab w g cap (P ++ x :: (M ++ y :: R))) (hp : p = P.length) (hq : q = P.length + 1 + M.length) :
    Row tab ((((w.setCell ⟨g, p * 2, none⟩ (.string (str (tab y).1))).setCell ⟨g, p * 2 + 1, none⟩ (.string (str (tab y).2))).setCell ⟨g, q * 2, none⟩ (.string (str (tab x).1))).setCell ⟨g, q * 2 + 1, none⟩ (.string (str (tab x).2))) g cap (P ++ y :: (M ++ x :: R)) := by
  obtain ⟨cu, hb, hc, ht⟩ := h
  have hl : (P ++ y :: (M ++ x :: R)).length = (P ++ x :: (M ++ y :: R)).length := by simp
  exact ⟨_, (((hb.put (p * 2) _).put (p * 2 + 1) _).put (q * 2) _).put (q * 2 + 1) _, by simp [hc], by rw [hl]; exact swap_mem ht (by rw [hp]) (by rw [hq])⟩
theorem set_comm2 {l : List Value} {p q : Nat} {a a' b b' : Value} (h : p + 2 ≤ q) : (((l.set q b).set (q + 1) b').set p a).set (p + 1) a' = (((l.set p a).set (p + 1) a').set q b).set (q + 1) b' := by
  rw [List.set_comm b' a (show q + 1 ≠ p by omega), List.set_comm b a (show q ≠ p by omega), List.set_comm b' a' (show q + 1 ≠ p + 1 by omega), List.set_comm b a' (show q ≠ p + 1 by omega)]
/-- .. the second one stored first. -/
theorem Row.swap' {tab : Nat → RuleL} {w : World} {g cap : Nat} {P M R : List Nat} {x y p q : Nat} (h : Row tab w g cap (P ++ x :: (M ++ y :: R))) (hp : p = P.length) (hq : q = P.length + 1 + M.length) :
    Row tab ((((w.setCell ⟨g, q * 2, none⟩ (.string (str (tab x).1))).setCell ⟨g, q * 2 + 1, none⟩ (.string (str (tab x).2))).setCell ⟨g, p * 2, none⟩ (.string (str (tab y).1))).setCell ⟨g, p * 2 + 1, none⟩ (.string (str (tab y).2))) g cap (P ++ y :: (M ++ x :: R)) := by
  obtain ⟨cu, hb, hc, ht⟩ := h
  have hl : (P ++ y :: (M ++ x :: R)).length = (P ++ x :: (M ++ y :: R)).length := by simp
  refine ⟨_, (((hb.put (q * 2) _).put (q * 2 + 1) _).put (p * 2) _).put (p * 2 + 1) _, by simp [hc], ?_⟩
  rw [hl]
  have := swap_mem ht (p := p * 2) (q := q * 2) (by rw [hp]) (by rw [hq])
  rw [← this, Array.toList_setIfInBounds, Array.toList_setIfInBounds, Array.toList_setIfInBounds, Array.toList_setIfInBounds, Array.toList_setIfInBounds, Array.toList_setIfInBounds, Array.toList_setIfInBounds, Array.toList_setIfInBounds, set_comm2 (by omega)]
theorem grown_swap {w w' : World} {g : Nat} (h : w.grownBy w' (some g)) (p q r s : Nat) (a b c d : Value) : w.grownBy ((((w'.setCell ⟨g, p, none⟩ a).setCell ⟨g, q, none⟩ b).setCell ⟨g, r, none⟩ c).setCell ⟨g, s, none⟩ d) (some g) :=
  grown_set (grown_set (grown_set (grown_set h _ _) _ _) _ _) _ _
theorem Row.drew {tab : Nat → RuleL} {w : World} {g cap : Nat} {L : List Nat} (h : Row tab w g cap L) : Row tab w.drew g cap L := h

set_option maxRecDepth 100000 in
set_option maxHeartbeats 6400000 in
theorem insertion_any (tab : Nat → RuleL) (cl : Nat → Nat) (bp g n c cap a b : Nat) (P U Q : List Nat) (w : World) (hcm : CmpOk tab cl bp g w) (hP : P.length = a) (hb : a + U.length = b) (hn : b ≤ n) (hsz : n ≤ 1000000000)
    (hrow : Row tab w g cap (P ++ (U ++ Q))) :
    Calls Tryd.prog 79 #[.slice (some ⟨g, 0, none⟩) n c, .int .i64 (a : Int), .int .i64 (b : Int), cmpV bp] w fun e w' => e = .returned (.tuple #[]) ∧ ∃ M, Srtd cl U M ∧ Row tab w' g cap (P ++ (M ++ Q)) ∧ w.grownBy w' (some g) := by
  unfold cmpV
  have mixed : Tryd.prog.follows .mixedOrders = true := by kernel_rfl
  obtain ⟨N, hN⟩ : ∃ N, U.length = N := ⟨_, rfl⟩
  rw [hN] at hb
  have HUl := Lib.hid hN
  have HPl := Lib.hid hP
  have HR0 := Lib.hid hrow
  have HCM := Lib.hid hcm
  clear hN hP hrow hcm
  go_enter Tryd.func79, Tryd.ntmps79
  go_wp2
  go_loopw [8] (fun s wr => ∃ (i k : Nat) (S : List Nat), s = .int .i64 (i : Int) ∧ Hid (i = a + k) ∧ 1 ≤ k ∧ (k ≤ N ∨ k = 1) ∧ Hid (Srtd cl (U.take k) S) ∧ Hid (Row tab wr g cap (P ++ (S ++ (U.drop k ++ Q)))) ∧ w.grownBy wr (some g)) (fun s _ => b - (intOf s).toNat)
  case atStart => exact ⟨a + 1, 1, U.take 1, by go_num, Lib.hid rfl, by omega, .inr rfl, Lib.hid (Srtd.self (asc_short (by rw [List.length_take]; omega))), Lib.hid (HR0.out.same (by rw [← List.append_assoc (U.take 1), List.take_append_drop])), grown_refl _ _⟩
  case round =>
    obtain ⟨i, k, S, rfl, Hik, hk1, hkN, HS, HR, hg⟩ := hrel
    by_cases hlt : i < b
    · have t1 : decide ((i : Int) < (b : Int)) = true := by simp; omega
      have hkN : k < N := by have := Hik.out; omega
      obtain ⟨y, hy⟩ := get_some (l := U) (i := k) (by have := HUl.out; omega)
      have hUk : U.drop k = y :: U.drop (k + 1) := by
        obtain ⟨h1, h2⟩ := List.getElem?_eq_some_iff.1 hy
        rw [List.drop_eq_getElem_cons h1, h2]
      have hSl : S.length = k := by rw [HS.out.length, List.length_take]; have := HUl.out; omega
      have HTake := Lib.hid (take_next hy)
      have HSl := Lib.hid hSl
      have HR1 : Hid (Row tab wr g cap (P ++ (S ++ y :: ([] ++ (U.drop (k + 1) ++ Q))))) := Lib.hid (HR.out.same (by rw [hUk]; simp))
      have HK : Hid (∀ S1 S2 w', S = S1 ++ S2 → (∀ u ∈ S1, cl u ≤ cl y) → (∀ u ∈ S2, cl y < cl u) → Row tab w' g cap (P ++ (S1 ++ y :: (S2 ++ (U.drop (k + 1) ++ Q)))) →
          ∃ S', Srtd cl (U.take (k + 1)) S' ∧ Row tab w' g cap (P ++ (S' ++ (U.drop (k + 1) ++ Q)))) := Lib.hid (by
        intro S1 S2 w' hS h1 h2 hr
        refine ⟨S1 ++ y :: S2, ?_, hr.same (by simp)⟩
        rw [HTake.out]
        refine HS.out.then_ ?_
        rw [hS]
        exact srt_right (by rw [← hS]; exact HS.out.1) h1 h2)
      clear hUk hy hSl HR HR0
      go_wp2
      go_loopw [9] (fun s wr2 => ∃ (j : Nat) (S1 S2 : List Nat), s = .int .i64 (j : Int) ∧ Hid (S = S1 ++ S2) ∧ Hid (j = a + S1.length) ∧ j ≤ i ∧ Hid (∀ u ∈ S2, cl y < cl u) ∧ Hid (Row tab wr2 g cap (P ++ (S1 ++ y :: (S2 ++ (U.drop (k + 1) ++ Q))))) ∧ w.grownBy wr2 (some g)) (fun s _ => (intOf s).toNat)
      case atStart => exact ⟨i, S, [], rfl, Lib.hid (by simp), Lib.hid (by rw [HSl.out]; exact Hik.out), Nat.le_refl _, Lib.hid (by simp), HR1, hg⟩
      case round =>
        obtain ⟨j, S1, S2, rfl, HSS, Hjl, hji, HG, HR2, hg2⟩ := hrel
        have hjl := Hjl.out
        by_cases hj0 : a < j
        · have t2 : decide ((a : Int) < (j : Int)) = true := by simp; omega
          have t2' : decide (a < j) = true := by simpa using hj0
          have hne : S1 ≠ [] := fun e => by rw [e] at hjl; simp at hjl; omega
          obtain ⟨S0, x, hS1⟩ : ∃ S0 x, S1 = S0 ++ [x] := ⟨S1.dropLast, S1.getLast hne, (List.dropLast_concat_getLast hne).symm⟩
          subst hS1
          obtain ⟨p, rfl⟩ : ∃ p, j = p + 1 := ⟨j - 1, by omega⟩
          have ep : ((p + 1 : Nat) : Int) - 1 = (p : Int) := by omega
          have g1 : decide ((p : Int) + 1 > (a : Int)) = true := decide_eq_true (by omega)
          have g2 : decide ((a : Int) < (p : Int) + 1) = true := decide_eq_true (by omega)
          have g3 : decide (a < p + 1) = true := decide_eq_true (by omega)
          have g4 : decide (a ≤ p) = true := decide_eq_true (by omega)
          have g5 : (a : Int) < (p : Int) + 1 := by omega
          have q0 : (0 : Int) ≤ (p : Int) + 1 := by omega
          have q1 : (p : Int) + 1 < (n : Int) := by omega
          have q2 : ((p : Int) + 1).toNat = p + 1 := by omega
          have q3 : IntKind.i64.wrap (p : Int) = (p : Int) := by rw [IntKind.wrap_i64]; omega
          have hS0 : S0.length + a = p := by rw [List.length_append, List.length_singleton] at hjl; omega
          have l3 := HPl.out
          have hpl : p = (P ++ S0).length := by rw [List.length_append]; omega
          have hql : p + 1 = (P ++ S0).length + 1 + ([] : List Nat).length := by rw [List.length_append, List.length_nil]; omega
          have HRx : Hid (Row tab wr g cap ((P ++ S0) ++ x :: ([] ++ y :: (S2 ++ (U.drop (k + 1) ++ Q))))) := Lib.hid (HR2.out.same (by simp))
          have HPL := Lib.hid hpl
          have HQL := Lib.hid hql
          have dx := HRx.out.one (at_mid hpl)
          have dx' := HRx.out.two (at_mid hpl)
          have dy := HRx.out.one (at_mid2 hql)
          have dy' := HRx.out.two (at_mid2 hql)
          have z0 : (p : Int) < (n : Int) := by omega
          have z1 : ((p + 1 : Nat) : Int) < (n : Int) := by omega
          have HC := Lib.hid (HCM.out wr hg2 y x)
          obtain ⟨K, hK⟩ : ∃ K, cmpN (cl y) (cl x) = K := ⟨_, rfl⟩
          rw [hK] at HC
          by_cases hyx : cl y < cl x
          · have t3 : decide (K < 0) = true := by rw [← hK]; exact cmpN_neg hyx
            have HG2 : Hid (∀ u ∈ x :: S2, cl y < cl u) := Lib.hid fun u hu => by
              rcases List.mem_cons.1 hu with rfl | hu
              · exact hyx
              · exact HG.out u hu
            have HSS2 : Hid (S = S0 ++ x :: S2) := Lib.hid (by rw [HSS.out]; simp)
            have hne0 : p * 2 ≠ (p + 1) * 2 := by omega
            have hne1 : p * 2 ≠ (p + 1) * 2 + 1 := by omega
            have hne2 : p * 2 + 1 ≠ (p + 1) * 2 := by omega
            have hne3 : p * 2 + 1 ≠ (p + 1) * 2 + 1 := by omega
            have hpj : p < p + 1 := by omega
            have hpi : p ≤ i := by omega
            have HpS : Hid (p = a + S0.length) := Lib.hid (by omega)
            clear hK hyx hpl hql hne hjl HR2 l3 hS0
            go_wp2
            go_quiet_grown (first | (go_at_call 62; refine Calls.grown_of (HC.out _ _)))
            have HRw := Lib.hid (HRx.out.class_ nq osq)
            have hgw := grown_class hg2 nq osq
            clear dx dx' dy dy' HC HRx
            generalize grow (wr.drewN nq) osq = wq at HRw hgw ⊢
            have d0 := (HRw.out.cells (at_mid HPL.out)).1
            have d1 := (HRw.out.cells (at_mid HPL.out)).2
            have d2 := (HRw.out.cells (at_mid2 HQL.out)).1
            have d3 := (HRw.out.cells (at_mid2 HQL.out)).2
            have f0 := HRw.out.free (p * 2)
            have f1 := HRw.out.free (p * 2 + 1)
            have f2 := HRw.out.free ((p + 1) * 2)
            have f3 := HRw.out.free ((p + 1) * 2 + 1)
            go_wp2
            go_region
            all_goals
              go_wp2
              go_roundw
              case rel => exact ⟨p, S0, x :: S2, by go_num, HSS2, HpS, hpi, HG2, Lib.hid ((HRw.out.swap' HPL.out HQL.out).drew.same (by simp)), grown_drew (grown_swap hgw _ _ _ _ _ _ _ _)⟩
              case measure => first | (simp [intOf]; done) | (simp [intOf]; omega)
          · have t3 : decide (K < 0) = false := by rw [← hK]; exact cmpN_pos hyx
            have HE : Hid (∃ S', Srtd cl (U.take (k + 1)) S' ∧ Row tab wr g cap (P ++ (S' ++ (U.drop (k + 1) ++ Q)))) := Lib.hid (HK.out (S0 ++ [x]) S2 wr HSS.out (asc_last (by have := HS.out.1; rw [HSS.out] at this; exact (asc_app.1 this).1) (by omega)) HG.out HR2.out)
            clear hK hyx hpl hql hne hjl l3 hS0
            go_wp2
            go_quiet_grown (first | (go_at_call 62; refine Calls.grown_of (HC.out _ _)))
            go_wp2
            go_roundw
            case rel =>
              obtain ⟨S', e1, e2⟩ := HE.out
              exact ⟨i + 1, k + 1, S', by go_num, Lib.hid (by have := Hik.out; omega), by omega, .inl (by omega), Lib.hid e1, Lib.hid (e2.class_ _ _), grown_class hg2 _ _⟩
            case measure => simp [intOf]; omega
        · have t2 : decide ((a : Int) < (j : Int)) = false := by simp; omega
          have t2' : decide (a < j) = false := by simpa using hj0
          have hS1 : S1 = [] := List.length_eq_zero_iff.1 (by omega)
          have HE : Hid (∃ S', Srtd cl (U.take (k + 1)) S' ∧ Row tab wr g cap (P ++ (S' ++ (U.drop (k + 1) ++ Q)))) := Lib.hid (HK.out S1 S2 wr HSS.out (by rw [hS1]; simp) HG.out HR2.out)
          clear hS1 hj0 hjl
          go_wp2
          go_big_quiet (fail)
          go_wp2
          go_roundw
          case rel =>
            obtain ⟨S', e1, e2⟩ := HE.out
            exact ⟨i + 1, k + 1, S', by go_num, Lib.hid (by have := Hik.out; omega), by omega, .inl (by omega), Lib.hid e1, Lib.hid (e2.drewN _), grown_drewN hg2 _⟩
          case measure => simp [intOf]; omega
    · have HE : Hid (Srtd cl U S ∧ Row tab wr g cap (P ++ (S ++ Q))) := Lib.hid (by
        have h3 := Hik.out
        have h1 := HS.out
        have h2 := HR.out
        rw [List.take_of_length_le (by rw [HUl.out]; omega)] at h1
        rw [List.drop_of_length_le (by rw [HUl.out]; omega)] at h2
        exact ⟨h1, h2⟩)
      go_wp2
      go_end0
      exact ⟨rfl, S, HE.out.1, HE.out.2, hg⟩

end Go.Proofs.YtomkipddbmnipaaDoor

namespace Go.Proofs.YtomkipddbmnipaaDoor
open Go.RowKit Go.Sort

/-- What merging promises at these arguments. -/
def SymC (tab : Nat → RuleL) (cl : Nat → Nat) (bp g n c cap a m b : Nat) (P U V Q : List Nat) (w : World) : Prop :=
  Calls Tryd.prog 80 #[.slice (some ⟨g, 0, none⟩) n c, .int .i64 (a : Int), .int .i64 (m : Int), .int .i64 (b : Int), cmpV bp] w fun e w' => e = .returned (.tuple #[]) ∧ ∃ M, Srtd cl (U ++ V) M ∧ Row tab w' g cap (P ++ (M ++ Q)) ∧ w.grownBy w' (some g)

theorem at_in {P V R : List Nat} {i t x : Nat} (h : i = P.length + t) (hx : V[t]? = some x) : (P ++ (V ++ R))[i]? = some x := by
  have := get_lt hx
  subst h
  rw [get_right (by omega), Nat.add_sub_cancel_left, get_left this]
  exact hx
theorem dropN_at {V : List Nat} {r z : Nat} (h : V[r]? = some z) : V.drop r = z :: V.drop (r + 1) := by
  obtain ⟨h1, h2⟩ := List.getElem?_eq_some_iff.1 h
  rw [List.drop_eq_getElem_cons h1, h2]
theorem take_mem_get {l : List Nat} {s u : Nat} (h : u ∈ l.take s) : ∃ i, i < s ∧ l[i]? = some u := mem_take_get h

set_option maxRecDepth 100000 in
set_option maxHeartbeats 6400000 in
theorem sym_left (tab : Nat → RuleL) (cl : Nat → Nat) (bp g n c cap a m b x : Nat) (P V Q : List Nat) (w : World) (hcm : CmpOk tab cl bp g w) (hP : P.length = a) (hm : a + 1 = m) (hb : m + V.length = b) (hn : b ≤ n) (hsz : n ≤ 1000000000) (hV : Asc cl V)
    (hrow : Row tab w g cap (P ++ ([x] ++ (V ++ Q)))) : SymC tab cl bp g n c cap a m b P [x] V Q w := by
  unfold SymC cmpV
  have mixed : Tryd.prog.follows .mixedOrders = true := by kernel_rfl
  have HCM := Lib.hid hcm
  obtain ⟨v, hv⟩ : ∃ v, V.length = v := ⟨_, rfl⟩
  rw [hv] at hb
  have HVl := Lib.hid hv
  have HPl := Lib.hid hP
  have HV := Lib.hid hV
  have HR := Lib.hid hrow
  have hbm : m ≤ b := by omega
  have ham : a < m := by omega
  have HB : Hid (m + v = b) := Lib.hid hb
  have HM : Hid (a + 1 = m) := Lib.hid hm
  have em : (m : Int) - (a : Int) = 1 := by omega
  clear hv hP hV hrow hb hm
  go_enter Tryd.func80, Tryd.ntmps80
  go_wp2
  go_loopw [10, 11, 12] (fun s10 s11 _ wr => ∃ i j : Nat, s10 = .int .i64 (i : Int) ∧ s11 = .int .i64 (j : Int) ∧ m ≤ i ∧ i ≤ j ∧ j ≤ b ∧ w.grownBy wr (some g) ∧ Hid (Row tab wr g cap (P ++ ([x] ++ (V ++ Q)))) ∧
    Hid ((∀ t y, V[t]? = some y → m + t < i → cl y < cl x) ∧ (∀ t y, V[t]? = some y → j ≤ m + t → cl x ≤ cl y))) (fun s10 s11 _ _ => (intOf s11).toNat - (intOf s10).toNat)
  case atStart => exact ⟨m, b, rfl, rfl, Nat.le_refl _, hbm, Nat.le_refl _, grown_refl _ _, HR, Lib.hid ⟨fun t y _ h => by omega, fun t y h h2 => by have := get_lt h; have := HVl.out; have := HB.out; omega⟩⟩
  case round =>
    obtain ⟨i, j, rfl, rfl, hmi, hij, hjb, hg, HRw, HI⟩ := hrel
    by_cases hlt : i < j
    · have t0 : decide ((i : Int) < (j : Int)) = true := by simp; omega
      obtain ⟨h, hh⟩ : ∃ h, h = (i + j) / 2 := ⟨_, rfl⟩
      have eh : ((i : Int) + (j : Int)) / 2 = (h : Int) := by omega
      have hih : i ≤ h := by omega
      have hhj : h < j := by omega
      have hhn : (h : Int) < (n : Int) := by omega
      have han : (a : Int) < (n : Int) := by omega
      obtain ⟨y, hy⟩ := get_some (l := V) (i := h - m) (by have := HVl.out; have := HB.out; omega)
      have gy : (P ++ ([x] ++ (V ++ Q)))[h]? = some y := by
        have e : P ++ ([x] ++ (V ++ Q)) = (P ++ [x]) ++ (V ++ Q) := by simp
        rw [e]
        exact at_in (t := h - m) (by have := HPl.out; have := HM.out; simp; omega) hy
      have gx : (P ++ ([x] ++ (V ++ Q)))[a]? = some x := at_mid HPl.out.symm
      have dx := HRw.out.one gx
      have dx' := HRw.out.two gx
      have dy := HRw.out.one gy
      have dy' := HRw.out.two gy
      have HC := Lib.hid (HCM.out wr hg y x)
      obtain ⟨K, hK⟩ : ∃ K, cmpN (cl y) (cl x) = K := ⟨_, rfl⟩
      rw [hK] at HC
      by_cases hyx : cl y < cl x
      · have t3 : decide (K < 0) = true := by rw [← hK]; exact cmpN_neg hyx
        have HI2 : Hid ((∀ t y, V[t]? = some y → m + t < h + 1 → cl y < cl x) ∧ (∀ t y, V[t]? = some y → j ≤ m + t → cl x ≤ cl y)) := Lib.hid ⟨fun t z hz ht => by
          have := asc_get HV.out hz hy (by omega)
          omega, HI.out.2⟩
        clear hK hyx hy hh gx gy
        go_wp2
        try rw [eh]
        go_quiet_grown (first | (go_at_call 62; refine Calls.grown_of (HC.out _ _)))
        go_wp2
        go_roundw
        case rel => exact ⟨h + 1, j, by go_num, rfl, by omega, by omega, hjb, grown_class hg _ _, Lib.hid (HRw.out.class_ _ _), HI2⟩
        case measure => simp [intOf]; omega
      · have t3 : decide (K < 0) = false := by rw [← hK]; exact cmpN_pos hyx
        have HI2 : Hid ((∀ t y, V[t]? = some y → m + t < i → cl y < cl x) ∧ (∀ t y, V[t]? = some y → h ≤ m + t → cl x ≤ cl y)) := Lib.hid ⟨HI.out.1, fun t z hz ht => by
          have := asc_get HV.out hy hz (by omega)
          omega⟩
        clear hK hyx hy hh gx gy
        go_wp2
        try rw [eh]
        go_quiet_grown (first | (go_at_call 62; refine Calls.grown_of (HC.out _ _)))
        go_wp2
        go_roundw
        case rel => exact ⟨i, h, rfl, by go_num, hmi, hih, by omega, grown_class hg _ _, Lib.hid (HRw.out.class_ _ _), HI2⟩
        case measure => simp [intOf]; omega
    · obtain rfl : i = j := by omega
      obtain ⟨l, hl⟩ : ∃ l, l = i - m := ⟨_, rfl⟩
      have HL : Hid (i = m + l) := Lib.hid (by omega)
      have hlv : l ≤ v := by have := HB.out; omega
      have HSrt : Hid (Srtd cl ([x] ++ V) (V.take l ++ x :: V.drop l)) := Lib.hid (by
        have h := srt_left (cl := cl) (x := x) (V1 := V.take l) (V2 := V.drop l) (by rw [List.take_append_drop]; exact HV.out) (fun u hu => by
          obtain ⟨t, ht, htu⟩ := mem_take_get hu
          exact HI.out.1 t u htu (by have := HL.out; omega)) (fun u hu => by
          obtain ⟨t, ht, htu⟩ := mem_drop_get hu
          exact HI.out.2 t u htu (by have := HL.out; omega))
        rw [List.take_append_drop] at h
        exact h)
      have HR1 : Hid (Row tab wr g cap (P ++ (V.take 0 ++ x :: (V.drop 0 ++ Q)))) := Lib.hid (HRw.out.same (by simp))
      obtain ⟨i1, hi1⟩ : ∃ i1, i1 = i - 1 := ⟨_, rfl⟩
      have ei : (i : Int) - 1 = (i1 : Int) := by omega
      have HI1 : Hid (i1 = a + l) := Lib.hid (by have := HL.out; have := HM.out; omega)
      clear hl hi1
      go_wp2
      go_loopw [13] (fun s wr2 => ∃ (k r : Nat), s = .int .i64 (k : Int) ∧ Hid (k = a + r) ∧ r ≤ l ∧ Hid (Row tab wr2 g cap (P ++ (V.take r ++ x :: (V.drop r ++ Q)))) ∧ w.grownBy wr2 (some g)) (fun s _ => i1 - (intOf s).toNat)
      case atStart => exact ⟨a, 0, by go_num, Lib.hid rfl, Nat.zero_le _, HR1, hg⟩
      case round =>
        obtain ⟨k, r, rfl, Hk, hrl, HR2, hg2⟩ := hrel
        have hk := Hk.out
        have hi1 := HI1.out
        by_cases hki : k < i1
        · have t5 : decide ((k : Int) < (i1 : Int)) = true := by simp; omega
          obtain ⟨z, hz⟩ := get_some (l := V) (i := r) (by have := HVl.out; omega)
          obtain ⟨k1, hk1⟩ : ∃ k1, k1 = k + 1 := ⟨_, rfl⟩
          have ek : (k : Int) + 1 = (k1 : Int) := by omega
          have hVr := dropN_at hz
          have l3 := HPl.out
          have hl5 : (V.take r).length = r := by rw [List.length_take]; have := HVl.out; omega
          have hpl : k = (P ++ V.take r).length := by rw [List.length_append]; omega
          have hql : k1 = (P ++ V.take r).length + 1 + ([] : List Nat).length := by rw [List.length_append, List.length_nil]; omega
          have HRx : Hid (Row tab wr g cap ((P ++ V.take r) ++ x :: ([] ++ z :: (V.drop (r + 1) ++ Q)))) := Lib.hid (HR2.out.same (by rw [hVr]; simp))
          have d0 := (HRx.out.cells (at_mid hpl)).1
          have d1 := (HRx.out.cells (at_mid hpl)).2
          have d2 := (HRx.out.cells (at_mid2 hql)).1
          have d3 := (HRx.out.cells (at_mid2 hql)).2
          have f0 := HRx.out.free (k * 2)
          have f1 := HRx.out.free (k * 2 + 1)
          have f2 := HRx.out.free (k1 * 2)
          have f3 := HRx.out.free (k1 * 2 + 1)
          have z0 : (k : Int) < (n : Int) := by omega
          have z1 : (k1 : Int) < (n : Int) := by omega
          have hne0 : k * 2 ≠ k1 * 2 := by omega
          have hne1 : k * 2 ≠ k1 * 2 + 1 := by omega
          have hne2 : k * 2 + 1 ≠ k1 * 2 := by omega
          have hne3 : k * 2 + 1 ≠ k1 * 2 + 1 := by omega
          have HS : Hid (∀ w', Row tab w' g cap ((P ++ V.take r) ++ z :: ([] ++ x :: (V.drop (r + 1) ++ Q))) → Row tab w' g cap (P ++ (V.take (r + 1) ++ x :: (V.drop (r + 1) ++ Q)))) := Lib.hid fun w' h => h.same (by rw [take_next hz]; simp)
          have Hk2 : Hid (k1 = a + (r + 1)) := Lib.hid (by omega)
          have hrl2 : r + 1 ≤ l := by omega
          have hk1k : k < k1 := by omega
          have HPL := Lib.hid hpl
          have HQL := Lib.hid hql
          clear hpl hql HR2 l3 hl5 hVr hz hk1 hk hi1
          go_wp2
          go_region
          all_goals
            go_wp2
            go_roundw
            case rel => exact ⟨k1, r + 1, by go_num, Hk2, hrl2, Lib.hid (HS.out _ (HRx.out.swap HPL.out HQL.out).drew), grown_drew (grown_swap hg2 _ _ _ _ _ _ _ _)⟩
            case measure => simp [intOf]; omega
        · have t5 : decide ((k : Int) < (i1 : Int)) = false := by simp; omega
          obtain rfl : r = l := by omega
          clear hk hi1
          go_wp2
          (try simp only [Exit.inBlock, Exit.then]); refine bodyPost_ret (results_none rfl _ _ _) rfl ?_
          exact ⟨rfl, _, HSrt.out, HR2.out.same (by simp), hg2⟩


end Go.Proofs.YtomkipddbmnipaaDoor

namespace Go.Proofs.YtomkipddbmnipaaDoor
open Go.RowKit Go.Sort

set_option maxRecDepth 100000 in
set_option maxHeartbeats 6400000 in
theorem sym_right (tab : Nat → RuleL) (cl : Nat → Nat) (bp g n c cap a m b y : Nat) (P U Q : List Nat) (w : World) (hcm : CmpOk tab cl bp g w) (hP : P.length = a) (hU2 : 1 < U.length) (hm : a + U.length = m) (hb : m + 1 = b) (hn : b ≤ n) (hsz : n ≤ 1000000000) (hU : Asc cl U)
    (hrow : Row tab w g cap (P ++ (U ++ ([y] ++ Q)))) : SymC tab cl bp g n c cap a m b P U [y] Q w := by
  unfold SymC cmpV
  have mixed : Tryd.prog.follows .mixedOrders = true := by kernel_rfl
  have HCM := Lib.hid hcm
  obtain ⟨u, hu⟩ : ∃ u, U.length = u := ⟨_, rfl⟩
  rw [hu] at hm hU2
  have HUl := Lib.hid hu
  have HPl := Lib.hid hP
  have HU := Lib.hid hU
  have HR := Lib.hid hrow
  have ham : a ≤ m := by omega
  have hmb : m < b := by omega
  have HB : Hid (m + 1 = b) := Lib.hid hb
  have HM : Hid (a + u = m) := Lib.hid hm
  have em : (b : Int) - (m : Int) = 1 := by omega
  have ea : ((m : Int) - (a : Int) == 1) = false := eqb_false (by omega)
  have ea2 : ¬ (m : Int) - (a : Int) = 1 := by omega
  clear hu hP hU hrow hb hm
  go_enter Tryd.func80, Tryd.ntmps80
  go_wp2
  go_loopw [14, 15, 16] (fun s14 s15 _ wr => ∃ i j : Nat, s14 = .int .i64 (i : Int) ∧ s15 = .int .i64 (j : Int) ∧ a ≤ i ∧ i ≤ j ∧ j ≤ m ∧ w.grownBy wr (some g) ∧ Hid (Row tab wr g cap (P ++ (U ++ ([y] ++ Q)))) ∧
    Hid ((∀ t x, U[t]? = some x → a + t < i → cl x ≤ cl y) ∧ (∀ t x, U[t]? = some x → j ≤ a + t → cl y < cl x))) (fun s14 s15 _ _ => (intOf s15).toNat - (intOf s14).toNat)
  case atStart => exact ⟨a, m, rfl, rfl, Nat.le_refl _, ham, Nat.le_refl _, grown_refl _ _, HR, Lib.hid ⟨fun t x _ h => by omega, fun t x h h2 => by have := get_lt h; have := HUl.out; have := HM.out; omega⟩⟩
  case round =>
    obtain ⟨i, j, rfl, rfl, hai, hij, hjm, hg, HRw, HI⟩ := hrel
    by_cases hlt : i < j
    · have t0 : decide ((i : Int) < (j : Int)) = true := by simp; omega
      obtain ⟨h, hh⟩ : ∃ h, h = (i + j) / 2 := ⟨_, rfl⟩
      have eh : ((i : Int) + (j : Int)) / 2 = (h : Int) := by omega
      have hih : i ≤ h := by omega
      have hhj : h < j := by omega
      have hhn : (h : Int) < (n : Int) := by omega
      have hmn : (m : Int) < (n : Int) := by omega
      obtain ⟨x, hx⟩ := get_some (l := U) (i := h - a) (by have := HUl.out; have := HM.out; omega)
      have gx : (P ++ (U ++ ([y] ++ Q)))[h]? = some x := at_in (t := h - a) (by have := HPl.out; omega) hx
      have gy : (P ++ (U ++ ([y] ++ Q)))[m]? = some y := by
        have e : P ++ (U ++ ([y] ++ Q)) = (P ++ U) ++ y :: Q := by simp
        rw [e]
        exact at_mid (by rw [List.length_append]; have := HPl.out; have := HUl.out; have := HM.out; omega)
      have dx := HRw.out.one gx
      have dx' := HRw.out.two gx
      have dy := HRw.out.one gy
      have dy' := HRw.out.two gy
      have HC := Lib.hid (HCM.out wr hg y x)
      obtain ⟨K, hK⟩ : ∃ K, cmpN (cl y) (cl x) = K := ⟨_, rfl⟩
      rw [hK] at HC
      by_cases hyx : cl y < cl x
      · have t3 : decide (K < 0) = true := by rw [← hK]; exact cmpN_neg hyx
        have HI2 : Hid ((∀ t x, U[t]? = some x → a + t < i → cl x ≤ cl y) ∧ (∀ t x, U[t]? = some x → h ≤ a + t → cl y < cl x)) := Lib.hid ⟨HI.out.1, fun t z hz ht => by
          have := asc_get HU.out hx hz (by omega)
          omega⟩
        clear hK hyx hx hh gx gy
        go_wp2
        try rw [eh]
        go_quiet_grown (first | (go_at_call 62; refine Calls.grown_of (HC.out _ _)))
        go_wp2
        go_roundw
        case rel => exact ⟨i, h, rfl, by go_num, hai, hih, by omega, grown_class hg _ _, Lib.hid (HRw.out.class_ _ _), HI2⟩
        case measure => simp [intOf]; omega
      · have t3 : decide (K < 0) = false := by rw [← hK]; exact cmpN_pos hyx
        have HI2 : Hid ((∀ t x, U[t]? = some x → a + t < h + 1 → cl x ≤ cl y) ∧ (∀ t x, U[t]? = some x → j ≤ a + t → cl y < cl x)) := Lib.hid ⟨fun t z hz ht => by
          have := asc_get HU.out hz hx (by omega)
          omega, HI.out.2⟩
        clear hK hyx hx hh gx gy
        go_wp2
        try rw [eh]
        go_quiet_grown (first | (go_at_call 62; refine Calls.grown_of (HC.out _ _)))
        go_wp2
        go_roundw
        case rel => exact ⟨h + 1, j, by go_num, rfl, by omega, by omega, hjm, grown_class hg _ _, Lib.hid (HRw.out.class_ _ _), HI2⟩
        case measure => simp [intOf]; omega
    · obtain rfl : i = j := by omega
      obtain ⟨l, hl⟩ : ∃ l, l = i - a := ⟨_, rfl⟩
      have HL : Hid (i = a + l) := Lib.hid (by omega)
      have hlu : l ≤ u := by have := HM.out; omega
      have HSrt : Hid (Srtd cl (U ++ [y]) (U.take l ++ y :: U.drop l)) := Lib.hid (by
        have h := srt_right (cl := cl) (y := y) (U1 := U.take l) (U2 := U.drop l) (by rw [List.take_append_drop]; exact HU.out) (fun v hv => by
          obtain ⟨t, ht, htu⟩ := mem_take_get hv
          exact HI.out.1 t v htu (by have := HL.out; omega)) (fun v hv => by
          obtain ⟨t, ht, htu⟩ := mem_drop_get hv
          exact HI.out.2 t v htu (by have := HL.out; omega))
        rw [List.take_append_drop] at h
        exact h)
      have HR1 : Hid (Row tab wr g cap (P ++ (U.take u ++ y :: (U.drop u ++ Q)))) := Lib.hid (HRw.out.same (by
        rw [List.take_of_length_le (Nat.le_of_eq HUl.out), List.drop_of_length_le (Nat.le_of_eq HUl.out)]; simp))
      clear hl
      go_wp2
      go_loopw [17] (fun s wr => ∃ (k r : Nat), s = .int .i64 (k : Int) ∧ Hid (k = a + r) ∧ l ≤ r ∧ r ≤ u ∧ Hid (Row tab wr g cap (P ++ (U.take r ++ y :: (U.drop r ++ Q)))) ∧ w.grownBy wr (some g)) (fun s _ => (intOf s).toNat)
      case atStart => exact ⟨m, u, by go_num, Lib.hid HM.out.symm, hlu, Nat.le_refl _, HR1, hg⟩
      case round =>
        obtain ⟨k, r, rfl, Hk, hrl, hru, HR2, hg2⟩ := hrel
        have hk := Hk.out
        have hl := HL.out
        have hm := HM.out
        by_cases hki : i < k
        · obtain ⟨p, rfl⟩ : ∃ p, k = p + 1 := ⟨k - 1, by omega⟩
          obtain ⟨r0, rfl⟩ : ∃ r0, r = r0 + 1 := ⟨r - 1, by omega⟩
          have ep : ((p + 1 : Nat) : Int) - 1 = (p : Int) := by omega
          have g1 : decide ((p : Int) + 1 > (i : Int)) = true := decide_eq_true (by omega)
          have g2 : decide ((i : Int) < (p : Int) + 1) = true := decide_eq_true (by omega)
          have g3 : decide (i < p + 1) = true := decide_eq_true (by omega)
          have g4 : decide (i ≤ p) = true := decide_eq_true (by omega)
          have g5 : (i : Int) < (p : Int) + 1 := by omega
          obtain ⟨z, hz⟩ := get_some (l := U) (i := r0) (by have := HUl.out; omega)
          have hUr := dropN_at hz
          have l3 := HPl.out
          have hl5 : (U.take r0).length = r0 := by rw [List.length_take]; have := HUl.out; omega
          have hpl : p = (P ++ U.take r0).length := by rw [List.length_append]; omega
          have hql : p + 1 = (P ++ U.take r0).length + 1 + ([] : List Nat).length := by rw [List.length_append, List.length_nil]; omega
          have HRx : Hid (Row tab wr g cap ((P ++ U.take r0) ++ z :: ([] ++ y :: (U.drop (r0 + 1) ++ Q)))) := Lib.hid (HR2.out.same (by rw [take_next hz]; simp))
          have d0 := (HRx.out.cells (at_mid hpl)).1
          have d1 := (HRx.out.cells (at_mid hpl)).2
          have d2 := (HRx.out.cells (at_mid2 hql)).1
          have d3 := (HRx.out.cells (at_mid2 hql)).2
          have f0 := HRx.out.free (p * 2)
          have f1 := HRx.out.free (p * 2 + 1)
          have f2 := HRx.out.free ((p + 1) * 2)
          have f3 := HRx.out.free ((p + 1) * 2 + 1)
          have z0 : (p : Int) < (n : Int) := by omega
          have z1 : ((p + 1 : Nat) : Int) < (n : Int) := by omega
          have hne0 : p * 2 ≠ (p + 1) * 2 := by omega
          have hne1 : p * 2 ≠ (p + 1) * 2 + 1 := by omega
          have hne2 : p * 2 + 1 ≠ (p + 1) * 2 := by omega
          have hne3 : p * 2 + 1 ≠ (p + 1) * 2 + 1 := by omega
          have HS : Hid (∀ w', Row tab w' g cap ((P ++ U.take r0) ++ y :: ([] ++ z :: (U.drop (r0 + 1) ++ Q))) → Row tab w' g cap (P ++ (U.take r0 ++ y :: (U.drop r0 ++ Q)))) := Lib.hid fun w' h => h.same (by rw [hUr]; simp)
          have Hk2 : Hid (p = a + r0) := Lib.hid (by omega)
          have hlr : l ≤ r0 := by omega
          have hru2 : r0 ≤ u := by omega
          have HPL := Lib.hid hpl
          have HQL := Lib.hid hql
          clear hpl hql HR2 l3 hl5 hUr hz hk hl hm
          go_wp2
          go_region
          all_goals
            go_wp2
            go_roundw
            case rel => exact ⟨p, r0, by go_num, Hk2, hlr, hru2, Lib.hid (HS.out _ (HRx.out.swap' HPL.out HQL.out).drew), grown_drew (grown_swap hg2 _ _ _ _ _ _ _ _)⟩
            case measure => first | (simp [intOf]; done) | (simp [intOf]; omega)
        · have t5 : decide ((i : Int) < (k : Int)) = false := by simp; omega
          obtain rfl : r = l := by omega
          clear hk hl hm
          go_wp2
          (try simp only [Exit.inBlock, Exit.then]); refine bodyPost_ret (results_none rfl _ _ _) rfl ?_
          exact ⟨rfl, _, HSrt.out, HR2.out.same (by simp), hg2⟩

end Go.Proofs.YtomkipddbmnipaaDoor
