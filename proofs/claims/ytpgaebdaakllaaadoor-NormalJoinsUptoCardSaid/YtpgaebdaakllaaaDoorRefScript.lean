/-
  The reference's Script.
-/
import Derived.Test.YtpgaebdaakllaaaDoorRefEncode
namespace Go.Proofs.YtpgaebdaakllaaaDoor
open Go.RowKit

theorem ok_has {c : Nat} (h : okC c) : hasR (c : Int) = true := has_kind.2 h.2
theorem encR_nats {l : List Nat} (h : ∀ c ∈ l, okC c) : encR (l.map fun d : Nat => (d : Int)) = some (encL l) := by
  rw [encR_good]
  · unfold encI
    rw [List.map_map]
    congr 2
    conv => rhs; rw [← List.map_id l]
    exact List.map_congr_left fun a _ => rfl
  · rw [List.all_eq_true]
    intro x hx
    obtain ⟨c, hc, rfl⟩ := List.mem_map.1 hx
    exact ok_has (h c hc)

/-! Script. -/
def scrF (o : Nat) : List Nat → Nat
  | [] => o
  | c :: l => if (clsR (c : Int)).1 = 0 then scrF o l else if o ≠ 0 ∧ (clsR (c : Int)).1 ≠ o then 4 else scrF (clsR (c : Int)).1 l
def scriptR (s : List UInt8) : Nat := match decR s with | some l => scrF 0 l | none => 0
theorem scr_none {o c : Nat} {l : List Nat} (h : (clsR (c : Int)).1 = 0) : scrF o (c :: l) = scrF o l := by rw [scrF, if_pos h]
theorem scr_mixed {o c : Nat} {l : List Nat} (h : (clsR (c : Int)).1 ≠ 0) (ho : o ≠ 0) (h2 : (clsR (c : Int)).1 ≠ o) : scrF o (c :: l) = 4 := by rw [scrF, if_neg h, if_pos ⟨ho, h2⟩]
theorem scr_next {o c : Nat} {l : List Nat} (h : (clsR (c : Int)).1 ≠ 0) (h2 : o = 0 ∨ (clsR (c : Int)).1 = o) : scrF o (c :: l) = scrF (clsR (c : Int)).1 l := by
  rw [scrF, if_neg h, if_neg]
  rintro ⟨h3, h4⟩
  rcases h2 with h2 | h2
  · exact h3 h2
  · exact h4 h2

set_option maxRecDepth 20000 in
set_option maxHeartbeats 3200000 in
theorem refScript_any (s : List UInt8) (w : World) (hlen : s.length ≤ 100000000) :
    Calls Tryd.prog 26 #[.string (str s)] w fun e w' => e = .returned (.int .i64 (scriptR s : Int)) ∧ Below w.heap.size w w' := by
  have HD := Lib.hid (refDecode_any s w (by omega))
  go_enter Tryd.func26, Tryd.ntmps26
  go_wp2_with fail
  refine HD.out.mono ?_
  rintro e w1 ⟨hd, hb⟩
  obtain ⟨A, n, c, b, rfl, hcase⟩ := hd.form
  have hE : ∃ l, Hid (scriptR s = scrF 0 l) ∧ Arr nv w1 w1.heap.size (.slice A n c) l := by
    rcases hcase with ⟨_, l, h1, h2, h3, _⟩ | ⟨_, h1, rfl, h2, h3⟩
    · exact ⟨l, Lib.hid (by unfold scriptR; rw [h1]), h3⟩
    · subst h2 h3
      exact ⟨[], Lib.hid (by unfold scriptR; rw [h1]; rfl), Arr.nil_ _ _⟩
  obtain ⟨l, HS, hA⟩ := hE
  have HL := Lib.hid hA.len
  have hn : n ≤ 100000000 := by
    rcases hcase with ⟨_, l, h1, h2, _⟩ | ⟨_, h1, _, h2, _⟩
    · have := dec_len h1; omega
    · omega
  clear hd hcase
  go_wp2
  go_loopw [5, 6] (fun o i wr => ∃ k o1 q : Nat, k ≤ n ∧ i = .int .i64 (k : Int) ∧ o = .int .i64 (o1 : Int) ∧ Hid (scriptR s = scrF o1 (l.drop k)) ∧ wr = w1.drewN q) (fun _ i _ => n - (intOf i).toNat)
  case atStart => exact ⟨0, 0, 0, by omega, rfl, rfl, Lib.hid (by rw [HS.out]; rfl), rfl⟩
  case round =>
    obtain ⟨k, o, q, hk, rfl, rfl, HO, rfl⟩ := hrel
    by_cases hlt : k < n
    · have i1 : decide ((k : Int) < (n : Int)) = true := by simp; omega
      obtain ⟨b0, o0, rfl, hB0, hc0⟩ := hA.some_ (by omega)
      obtain ⟨x, hx⟩ : ∃ a, l[k]? = some a := ⟨_, List.getElem?_eq_getElem (by have := HL.out; omega)⟩
      have d0 := hc0 k x hx
      simp only [nv] at d0
      have hcl := class_any (x : Int) (w1.drewN q)
      obtain ⟨S, hS⟩ : ∃ S, S = (clsR (x : Int)).1 := ⟨_, rfl⟩
      obtain ⟨K, hK⟩ : ∃ K, K = (clsR (x : Int)).2 := ⟨_, rfl⟩
      rw [← hS, ← hK] at hcl
      have HC := Lib.hid hcl
      have hdr : l.drop k = x :: l.drop (k + 1) := by
        rw [List.drop_eq_getElem_cons (by have := HL.out; omega)]
        congr 1
        rw [List.getElem?_eq_getElem (by have := HL.out; omega)] at hx
        injection hx
      by_cases hs0 : S = 0
      · have t1 : ((S : Int) != 0) = false := by rw [hs0]; rfl
        have HO2 : Hid (scriptR s = scrF o (l.drop (k + 1))) := Lib.hid (by rw [HO.out, hdr, scr_none (by rw [← hS]; exact hs0)])
        clear hc0 hx hcl hS hK hdr hs0
        go_wp2_with fail
        refine HC.out.mono ?_
        rintro e w2 ⟨rfl, q2, rfl⟩
        unfold two
        go_wp2
        go_roundw
        case rel => exact ⟨k + 1, o, _, by omega, by go_num, rfl, HO2, rfl⟩
        case measure => simp [intOf]; omega
      · have t1 : ((S : Int) != 0) = true := by simp; omega
        by_cases ho0 : o = 0
        · have t2 : ((o : Int) != 0) = false := by rw [ho0]; rfl
          have HO2 : Hid (scriptR s = scrF S (l.drop (k + 1))) := Lib.hid (by rw [HO.out, hdr, hS, scr_next (by rw [← hS]; exact hs0) (.inl ho0)])
          clear hc0 hx hcl hS hK hdr hs0 ho0
          go_wp2_with fail
          refine HC.out.mono ?_
          rintro e w2 ⟨rfl, q2, rfl⟩
          unfold two
          go_wp2
          go_roundw
          case rel => exact ⟨k + 1, S, _, by omega, by go_num, rfl, HO2, rfl⟩
          case measure => simp [intOf]; omega
        · have t2 : ((o : Int) != 0) = true := by simp; omega
          by_cases hso : S = o
          · subst hso
            have t3 : ((S : Int) != (S : Int)) = false := by simp
            have HO2 : Hid (scriptR s = scrF S (l.drop (k + 1))) := Lib.hid (by
              have h1 := scr_next (o := S) (l := l.drop (k + 1)) (c := x) (by rw [← hS]; exact hs0) (.inr hS.symm)
              rw [HO.out, hdr, h1, ← hS])
            clear hc0 hx hcl hS hK hdr hs0 ho0
            go_wp2_with fail
            refine HC.out.mono ?_
            rintro e w2 ⟨rfl, q2, rfl⟩
            unfold two
            go_wp2
            go_roundw
            case rel => exact ⟨k + 1, S, _, by omega, by go_num, rfl, HO2, rfl⟩
            case measure => simp [intOf]; omega
          · have t3 : ((S : Int) != (o : Int)) = true := by simp; omega
            have HO2 : Hid (scriptR s = 4) := Lib.hid (by rw [HO.out, hdr, scr_mixed (by rw [← hS]; exact hs0) ho0 (by rw [← hS]; exact hso)])
            clear hc0 hx hcl hS hK hdr hs0 ho0 hso
            go_wp2_with fail
            refine HC.out.mono ?_
            rintro e w2 ⟨rfl, q2, rfl⟩
            unfold two
            go_wp2
            go_ret
            rw [HO2.out]
            exact ⟨rfl, below_drewN hb _⟩
    · obtain rfl : k = n := by omega
      have HE : Hid (scriptR s = o) := Lib.hid (by rw [HO.out, List.drop_of_length_le (by have := HL.out; omega)]; rfl)
      go_wp2
      go_ret
      rw [HE.out]
      exact ⟨rfl, below_drewN hb _⟩

end Go.Proofs.YtpgaebdaakllaaaDoor
