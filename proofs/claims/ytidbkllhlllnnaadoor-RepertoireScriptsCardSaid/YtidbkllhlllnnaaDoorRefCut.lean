/-
  The reference's Valid, Cut, Script.
-/
import Derived.Test.YtidbkllhlllnnaaDoorRefEncode
namespace Go.Proofs.YtidbkllhlllnnaaDoor
open Go.RowKit

def validR (s : List UInt8) : Bool := decide (1 ≤ s.length) && decide (s.length ≤ 400) && decide (s[0]? ≠ some 32) && decide (s[s.length - 1]? ≠ some 32) && (decR s).isSome
theorem at32 {s : List UInt8} {k : Nat} (h : k < (str s).size) : s[k]? = some 32 ↔ (str s)[k].toNat = 32 := by
  rw [str_at s k h]
  constructor
  · intro h; simp at h; rw [h]; rfl
  · intro h
    have : (str s)[k] = 32 := UInt8.toNat_inj.1 h
    rw [this]

set_option maxRecDepth 20000 in
set_option maxHeartbeats 1600000 in
theorem refValid_any (s : List UInt8) (w : World) (hlen : s.length ≤ 100000000000) :
    Calls Tryd.prog 19 #[.string (str s)] w fun e w' => e = .returned (.bool (validR s)) ∧ Below w.heap.size w w' := by
  have hsz : (str s).size = s.length := rfl
  obtain ⟨R, hR⟩ : ∃ R, R = validR s := ⟨_, rfl⟩
  rw [← hR]
  unfold validR at hR
  by_cases h0 : s.length = 0
  · have t0 : decide ((s.length : Int) < 1) = true := by simp; omega
    have HE : Hid (R = false) := Lib.hid (by rw [hR, decide_eq_false (show ¬ 1 ≤ s.length by omega)]; rfl)
    clear hR h0
    go_enter Tryd.func19, Tryd.ntmps19
    go_wp2
    go_ret
    exact ⟨ret_bool HE.out.symm, Below.refl _ _⟩
  have t0 : decide ((s.length : Int) < 1) = false := by simp; omega
  rw [decide_eq_true (show 1 ≤ s.length by omega), Bool.true_and] at hR
  by_cases h4 : 400 < s.length
  · have t1 : decide (400 < (s.length : Int)) = true := by simp; omega
    have HE : Hid (R = false) := Lib.hid (by rw [hR, decide_eq_false (show ¬ s.length ≤ 400 by omega)]; rfl)
    clear hR
    go_enter Tryd.func19, Tryd.ntmps19
    go_wp2
    go_ret
    exact ⟨ret_bool HE.out.symm, Below.refl _ _⟩
  have t1 : decide (400 < (s.length : Int)) = false := by simp; omega
  rw [decide_eq_true (show s.length ≤ 400 by omega), Bool.true_and] at hR
  have hp : 0 < (str s).size := by omega
  by_cases h5 : (str s)[0].toNat = 32
  · have t2 : (((str s)[0].toNat : Int) == 32) = true := eqb_true (by omega)
    have HE : Hid (R = false) := Lib.hid (by rw [hR, decide_eq_false (show ¬ s[0]? ≠ some 32 from fun h => h ((at32 hp).2 h5))]; rfl)
    clear hR
    go_enter Tryd.func19, Tryd.ntmps19
    go_wp2
    go_ret
    exact ⟨ret_bool HE.out.symm, Below.refl _ _⟩
  have t2 : (((str s)[0].toNat : Int) == 32) = false := eqb_false (by omega)
  rw [decide_eq_true (show s[0]? ≠ some 32 from fun h => h5 ((at32 hp).1 h)), Bool.true_and] at hR
  obtain ⟨m, hm⟩ : ∃ m, m + 1 = s.length := ⟨s.length - 1, by omega⟩
  have hm0 : m < (str s).size := by omega
  have hml : (s.length : Int) - 1 = (m : Int) := by omega
  have hmn : s.length - 1 = m := by omega
  rw [hmn] at hR
  have HD := Lib.hid (refDecode_any s w hlen)
  rw [← hm] at t0 t1 hsz
  by_cases h6 : (str s)[m].toNat = 32
  · have t3 : (((str s)[m].toNat : Int) == 32) = true := eqb_true (by omega)
    have HE : Hid (R = false) := Lib.hid (by rw [hR, decide_eq_false (show ¬ s[m]? ≠ some 32 from fun h => h ((at32 hm0).2 h6))]; rfl)
    clear hR
    go_enter Tryd.func19, Tryd.ntmps19
    go_wp2
    go_ret
    exact ⟨ret_bool HE.out.symm, Below.refl _ _⟩
  · have t3 : (((str s)[m].toNat : Int) == 32) = false := eqb_false (by omega)
    rw [decide_eq_true (show s[m]? ≠ some 32 from fun h => h6 ((at32 hm0).1 h)), Bool.true_and] at hR
    have HR := Lib.hid hR
    clear hR
    go_enter Tryd.func19, Tryd.ntmps19
    go_wp2_with fail
    refine HD.out.mono ?_
    rintro e w1 ⟨hd, hb⟩
    obtain ⟨A, n, c, b, rfl, hcase⟩ := hd.form
    have HN : Hid (R = b) := Lib.hid (by
      rw [HR.out]
      rcases hcase with ⟨h1, l, h2, _⟩ | ⟨h1, h2, _⟩
      · rw [h1, h2]; rfl
      · rw [h1, h2]; rfl)
    clear hd hcase
    go_wp2
    go_ret
    exact ⟨ret_bool HN.out.symm, hb⟩

def cutR (s : List UInt8) (n : Int) : List UInt8 := if n < 1 then [] else match decR s with | some l => encL (l.take n.toNat) | none => []
theorem cutR_less {s : List UInt8} {n : Int} (h : n < 1) : cutR s n = [] := if_pos h
theorem cutR_none {s : List UInt8} {n : Int} (h : decR s = none) : cutR s n = [] := by unfold cutR; rw [h]; split <;> rfl
theorem cutR_some {s : List UInt8} {l : List Nat} {n : Int} (h : decR s = some l) (hn : ¬ n < 1) : cutR s n = encL (l.take n.toNat) := by unfold cutR; rw [h, if_neg hn]
theorem ok_has {c : Nat} (h : okC c) : hasR (c : Int) = true := has_kind.2 h.2
theorem encR_nats {l : List Nat} (h : ∀ c ∈ l, okC c) : encR (l.map fun d : Nat => (d : Int)) = some (encL l) := by
  rw [encR_good]
  · unfold encI
    rw [List.map_map]
    congr 2
    conv => rhs; rw [← List.map_id l]
    exact List.map_congr_left fun a _ => rfl
  · rw [List.all_eq_true]
    intro x hx
    obtain ⟨c, hc, rfl⟩ := List.mem_map.1 hx
    exact ok_has (h c hc)

set_option maxRecDepth 20000 in
set_option maxHeartbeats 1600000 in
theorem refCut_any (s : List UInt8) (n : Int) (w : World) (hlen : s.length ≤ 100000000) :
    Calls Tryd.prog 25 #[.string (str s), .int .i64 n] w fun e w' => e = .returned (.string (str (cutR s n))) ∧ Below w.heap.size w w' := by
  have HD := Lib.hid (refDecode_any s w (by omega))
  obtain ⟨R, hR⟩ : ∃ R, R = cutR s n := ⟨_, rfl⟩
  rw [← hR]
  have HR := Lib.hid hR
  clear hR
  by_cases h1 : n < 1
  · have t1 : decide (n < 1) = true := by simpa using h1
    have HE : Hid (R = []) := Lib.hid (by rw [HR.out, cutR_less h1])
    go_enter Tryd.func25, Tryd.ntmps25
    go_wp2_with fail
    refine HD.out.mono ?_
    rintro e w1 ⟨hd, hb⟩
    obtain ⟨A, k, c, b, rfl, hcase⟩ := hd.form
    clear hd hcase
    go_wp2
    go_ret
    rw [HE.out]
    exact ⟨rfl, hb⟩
  · have t1 : decide (n < 1) = false := by simpa using h1
    go_enter Tryd.func25, Tryd.ntmps25
    go_wp2_with fail
    refine HD.out.mono ?_
    rintro e w1 ⟨hd, hb⟩
    obtain ⟨A, k, c, b, rfl, hcase⟩ := hd.form
    obtain ⟨N, hNk, hN1, hN2⟩ : ∃ N : Nat, N ≤ k ∧ (n ≤ (k : Int) → N = n.toNat) ∧ ((k : Int) < n → N = k) := by
      by_cases hnk : n ≤ (k : Int)
      · exact ⟨n.toNat, by omega, fun _ => rfl, by omega⟩
      · exact ⟨k, by omega, by omega, fun _ => rfl⟩
    have hkl : k ≤ 100000000 := by
      rcases hcase with ⟨_, l, h1, h2, _⟩ | ⟨_, h1, _, h2, _⟩
      · have := dec_len h1; omega
      · omega
    have hkc : k ≤ c := by
      rcases hcase with ⟨_, l, h1, h2, h3, _⟩ | ⟨_, h1, _, h2, h3⟩
      · exact h3.cap
      · omega
    have hE : ∃ xs, Hid (encR xs = some R) ∧ Arr iv w1 w1.heap.size (.slice A N c) xs := by
      rcases hcase with ⟨_, l, h1', h2, h3, _⟩ | ⟨_, h1', rfl, h2, h3⟩
      · refine ⟨(l.take N).map fun d : Nat => (d : Int), Lib.hid ?_, (h3.head hNk).int⟩
        have he := enc_dec h1'
        rw [encR_nats (fun c hc => he.2 c (List.mem_of_mem_take hc)), HR.out, cutR_some h1' (by omega)]
        congr 2
        by_cases hnk : n ≤ (k : Int)
        · rw [hN1 hnk]
        · rw [hN2 (by omega), h2, List.take_of_length_le (Nat.le_refl _), List.take_of_length_le (by omega)]
      · refine ⟨[], Lib.hid ?_, ?_⟩
        · rw [HR.out, cutR_none h1']; rfl
        · obtain rfl : N = 0 := by omega
          subst h3
          exact Arr.nil_ _ _
    obtain ⟨xs, HX, hA⟩ := hE
    have HC := Lib.hid (refEncode_any A N c xs w1 hA (by omega))
    have HN1 := Lib.hid hN1
    have HN2 := Lib.hid hN2
    clear hd hcase hN1 hN2 HR hA
    go_wp2_with fail
    all_goals
      first
        | (have hh : (k : Int) < n := by omega
           obtain rfl := HN2.out hh)
        | (have hh : n ≤ (k : Int) := by omega
           obtain rfl := HN1.out hh)
      refine HC.out.mono ?_
      rintro e w2 ⟨he, hb2⟩
      rw [HX.out] at he
      subst he
      go_wp2
      go_ret
      exact ⟨rfl, below_next hb hb2⟩

/-! Script. -/
def scrF (o : Nat) : List Nat → Nat
  | [] => o
  | c :: l => if (clsR (c : Int)).1 = 0 then scrF o l else if o ≠ 0 ∧ (clsR (c : Int)).1 ≠ o then 4 else scrF (clsR (c : Int)).1 l
def scriptR (s : List UInt8) : Nat := match decR s with | some l => scrF 0 l | none => 0
theorem scr_none {o c : Nat} {l : List Nat} (h : (clsR (c : Int)).1 = 0) : scrF o (c :: l) = scrF o l := by rw [scrF, if_pos h]
theorem scr_mixed {o c : Nat} {l : List Nat} (h : (clsR (c : Int)).1 ≠ 0) (ho : o ≠ 0) (h2 : (clsR (c : Int)).1 ≠ o) : scrF o (c :: l) = 4 := by rw [scrF, if_neg h, if_pos ⟨ho, h2⟩]
theorem scr_next {o c : Nat} {l : List Nat} (h : (clsR (c : Int)).1 ≠ 0) (h2 : o = 0 ∨ (clsR (c : Int)).1 = o) : scrF o (c :: l) = scrF (clsR (c : Int)).1 l := by
  rw [scrF, if_neg h, if_neg]
  rintro ⟨h3, h4⟩
  rcases h2 with h2 | h2
  · exact h3 h2
  · exact h4 h2

set_option maxRecDepth 20000 in
set_option maxHeartbeats 3200000 in
theorem refScript_any (s : List UInt8) (w : World) (hlen : s.length ≤ 100000000) :
    Calls Tryd.prog 21 #[.string (str s)] w fun e w' => e = .returned (.int .i64 (scriptR s : Int)) ∧ Below w.heap.size w w' := by
  have HD := Lib.hid (refDecode_any s w (by omega))
  go_enter Tryd.func21, Tryd.ntmps21
  go_wp2_with fail
  refine HD.out.mono ?_
  rintro e w1 ⟨hd, hb⟩
  obtain ⟨A, n, c, b, rfl, hcase⟩ := hd.form
  have hE : ∃ l, Hid (scriptR s = scrF 0 l) ∧ Arr nv w1 w1.heap.size (.slice A n c) l := by
    rcases hcase with ⟨_, l, h1, h2, h3, _⟩ | ⟨_, h1, rfl, h2, h3⟩
    · exact ⟨l, Lib.hid (by unfold scriptR; rw [h1]), h3⟩
    · subst h2 h3
      exact ⟨[], Lib.hid (by unfold scriptR; rw [h1]; rfl), Arr.nil_ _ _⟩
  obtain ⟨l, HS, hA⟩ := hE
  have HL := Lib.hid hA.len
  have hn : n ≤ 100000000 := by
    rcases hcase with ⟨_, l, h1, h2, _⟩ | ⟨_, h1, _, h2, _⟩
    · have := dec_len h1; omega
    · omega
  clear hd hcase
  go_wp2
  go_loopw [5, 6] (fun o i wr => ∃ k o1 q : Nat, k ≤ n ∧ i = .int .i64 (k : Int) ∧ o = .int .i64 (o1 : Int) ∧ Hid (scriptR s = scrF o1 (l.drop k)) ∧ wr = w1.drewN q) (fun _ i _ => n - (intOf i).toNat)
  case atStart => exact ⟨0, 0, 0, by omega, rfl, rfl, Lib.hid (by rw [HS.out]; rfl), rfl⟩
  case round =>
    obtain ⟨k, o, q, hk, rfl, rfl, HO, rfl⟩ := hrel
    by_cases hlt : k < n
    · have i1 : decide ((k : Int) < (n : Int)) = true := by simp; omega
      obtain ⟨b0, o0, rfl, hB0, hc0⟩ := hA.some_ (by omega)
      obtain ⟨x, hx⟩ : ∃ a, l[k]? = some a := ⟨_, List.getElem?_eq_getElem (by have := HL.out; omega)⟩
      have d0 := hc0 k x hx
      simp only [nv] at d0
      have hcl := class_any (x : Int) (w1.drewN q)
      obtain ⟨S, hS⟩ : ∃ S, S = (clsR (x : Int)).1 := ⟨_, rfl⟩
      obtain ⟨K, hK⟩ : ∃ K, K = (clsR (x : Int)).2 := ⟨_, rfl⟩
      rw [← hS, ← hK] at hcl
      have HC := Lib.hid hcl
      have hdr : l.drop k = x :: l.drop (k + 1) := by
        rw [List.drop_eq_getElem_cons (by have := HL.out; omega)]
        congr 1
        rw [List.getElem?_eq_getElem (by have := HL.out; omega)] at hx
        injection hx
      by_cases hs0 : S = 0
      · have t1 : ((S : Int) != 0) = false := by rw [hs0]; rfl
        have HO2 : Hid (scriptR s = scrF o (l.drop (k + 1))) := Lib.hid (by rw [HO.out, hdr, scr_none (by rw [← hS]; exact hs0)])
        clear hc0 hx hcl hS hK hdr hs0
        go_wp2_with fail
        refine HC.out.mono ?_
        rintro e w2 ⟨rfl, q2, rfl⟩
        unfold two
        go_wp2
        go_roundw
        case rel => exact ⟨k + 1, o, _, by omega, by go_num, rfl, HO2, rfl⟩
        case measure => simp [intOf]; omega
      · have t1 : ((S : Int) != 0) = true := by simp; omega
        by_cases ho0 : o = 0
        · have t2 : ((o : Int) != 0) = false := by rw [ho0]; rfl
          have HO2 : Hid (scriptR s = scrF S (l.drop (k + 1))) := Lib.hid (by rw [HO.out, hdr, hS, scr_next (by rw [← hS]; exact hs0) (.inl ho0)])
          clear hc0 hx hcl hS hK hdr hs0 ho0
          go_wp2_with fail
          refine HC.out.mono ?_
          rintro e w2 ⟨rfl, q2, rfl⟩
          unfold two
          go_wp2
          go_roundw
          case rel => exact ⟨k + 1, S, _, by omega, by go_num, rfl, HO2, rfl⟩
          case measure => simp [intOf]; omega
        · have t2 : ((o : Int) != 0) = true := by simp; omega
          by_cases hso : S = o
          · subst hso
            have t3 : ((S : Int) != (S : Int)) = false := by simp
            have HO2 : Hid (scriptR s = scrF S (l.drop (k + 1))) := Lib.hid (by
              have h1 := scr_next (o := S) (l := l.drop (k + 1)) (c := x) (by rw [← hS]; exact hs0) (.inr hS.symm)
              rw [HO.out, hdr, h1, ← hS])
            clear hc0 hx hcl hS hK hdr hs0 ho0
            go_wp2_with fail
            refine HC.out.mono ?_
            rintro e w2 ⟨rfl, q2, rfl⟩
            unfold two
            go_wp2
            go_roundw
            case rel => exact ⟨k + 1, S, _, by omega, by go_num, rfl, HO2, rfl⟩
            case measure => simp [intOf]; omega
          · have t3 : ((S : Int) != (o : Int)) = true := by simp; omega
            have HO2 : Hid (scriptR s = 4) := Lib.hid (by rw [HO.out, hdr, scr_mixed (by rw [← hS]; exact hs0) ho0 (by rw [← hS]; exact hso)])
            clear hc0 hx hcl hS hK hdr hs0 ho0 hso
            go_wp2_with fail
            refine HC.out.mono ?_
            rintro e w2 ⟨rfl, q2, rfl⟩
            unfold two
            go_wp2
            go_ret
            rw [HO2.out]
            exact ⟨rfl, below_drewN hb _⟩
    · obtain rfl : k = n := by omega
      have HE : Hid (scriptR s = o) := Lib.hid (by rw [HO.out, List.drop_of_length_le (by have := HL.out; omega)]; rfl)
      go_wp2
      go_ret
      rw [HE.out]
      exact ⟨rfl, below_drewN hb _⟩

end Go.Proofs.YtidbkllhlllnnaaDoor
