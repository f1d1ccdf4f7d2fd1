/-
  The contract of the decoder of a text.
-/
import Derived.Test.YtefonoaffeahjaaClos
namespace Go.Proofs.Ytefonoaffeahjaa
open Go.RowKit

def isText (s : List UInt8) (y : Value) : Prop := y = .string (str s)

theorem Sl.take_ {w : World} {B n c k : Nat} {A : Option Addr} {bs : List UInt8} (h : Sl w B (.slice A n c) bs) (hk : k ≤ bs.length) : Sl w B (.slice A k c) (bs.take k) := by
  have hl : (bs.take k).length = k := by rw [List.length_take]; omega
  rcases h with ⟨e, rfl⟩ | ⟨a, c', e, hc, hb, hcell⟩
  · injection e with e1 e2 e3
    subst e1 e3
    simp at hk
    subst hk
    exact .inl ⟨rfl, rfl⟩
  · injection e with e1 e2 e3
    subst e1 e3
    refine .inr ⟨a, c, by rw [hl], by rw [hl]; omega, fun h0 => hb (by rw [hl] at h0; omega), fun i u hu => ?_⟩
    have hi : i < (bs.take k).length := (List.getElem?_eq_some_iff.1 hu).1
    rw [List.getElem?_take, if_pos (by omega)] at hu
    exact hcell i u hu

theorem add_add (a : Addr) (i j : Nat) : (a.add i).add j = a.add (i + j) := by
  unfold Addr.add
  by_cases hi : i = 0 <;> by_cases hj : j = 0 <;> simp [hi, hj, Nat.add_assoc]

theorem Sl.drop_ {w : World} {B c k : Nat} {a a' : Addr} {bs : List UInt8} (h : Sl w B (.slice (some a) bs.length c) bs) (ha : a' = a.add k ∨ (a' = a ∧ k = bs.length)) {c' : Nat} (hc : bs.length - k ≤ c') :
    Sl w B (.slice (some a') (bs.length - k) c') (bs.drop k) := by
  rcases h with ⟨e, _⟩ | ⟨a0, c0, e, _, hb, hcell⟩
  · cases e
  · injection e with e1 e2 e3
    injection e1 with e1
    subst e1
    refine .inr ⟨a', c', by rw [List.length_drop], by rw [List.length_drop]; exact hc, ?_, fun i u hu => ?_⟩
    · intro h0
      rw [List.length_drop] at h0
      have hb' := hb (by omega)
      rcases ha with rfl | ⟨rfl, _⟩
      · rw [add_block]; exact hb'
      · exact hb'
    · rw [List.getElem?_drop] at hu
      rcases ha with rfl | ⟨rfl, h2⟩
      · rw [add_add]; exact hcell _ u hu
      · have := (List.getElem?_eq_some_iff.1 hu).1; omega

theorem Sl.drewN {w : World} {B : Nat} {v : Value} {bs : List UInt8} (h : Sl w B v bs) (k : Nat) : Sl (w.drewN k) B v bs := h.keep fun _ _ => rfl
theorem IntDec.drewN {w : World} {lo hi : Int} {fv : Value} (h : IntDec w lo hi fv) (k : Nat) : IntDec (w.drewN k) lo hi fv := h

set_option maxHeartbeats 800000 in
theorem textDec_none (v fi : Value) (bs : List UInt8) (B g : Nat) (mx : Int) (w : World) (h : Sl w B v bs) (hlen : bs.length ≤ 1000000000000) (hg : w.cell? ⟨g, 0, none⟩ = some fi) (hi : IntDec w 0 mx fi) (hd : decI 0 mx bs = none) :
    Calls Try.prog 54 #[v, .pointer (some ⟨g, 0, none⟩)] w fun e w' => DEnd isText w B none e ∧ ∃ k, w' = w.drewN k := by
  obtain ⟨g1, g2, rfl, c1, c2⟩ := hi
  go_enter Try.func54, Try.ntmps54
  go_wp2_with fail
  refine (intDec_any v bs B g1 g2 0 mx _ h hlen c1 c2).mono ?_
  rintro e w1 ⟨he, k, rfl⟩
  rw [hd] at he
  obtain ⟨y, v', rfl⟩ := he
  go_wp2
  go_ret3
  exact ⟨⟨_, _, rfl⟩, k, rfl⟩

set_option maxHeartbeats 800000 in
theorem textDec_some (v fi : Value) (bs r : List UInt8) (n : Int) (B g : Nat) (mx : Int) (w : World) (h : Sl w B v bs) (hlen : bs.length ≤ 1000000000000) (hg : w.cell? ⟨g, 0, none⟩ = some fi) (hi : IntDec w 0 mx fi) (hd : decI 0 mx bs = some (n, r)) :
    Calls Try.prog 54 #[v, .pointer (some ⟨g, 0, none⟩)] w fun e w' => DEnd isText w B (if n ≤ r.length then some (r.take n.toNat, r.drop n.toNat) else none) e ∧ ∃ k, w' = w.drewN k := by
  obtain ⟨g1, g2, rfl, c1, c2⟩ := hi
  obtain ⟨hbs, hn0, _, _, hn1⟩ := decI_canon hd
  have hrl : r.length ≤ 1000000000000 := by rw [hbs, List.length_append] at hlen; omega
  obtain ⟨m, rfl⟩ : ∃ m : Nat, n = m := ⟨n.toNat, by omega⟩
  clear hbs hn0
  have HD := Lib.hid hd
  clear hd
  go_enter Try.func54, Try.ntmps54
  go_wp2_with fail
  refine (intDec_any v bs B g1 g2 0 mx _ h hlen c1 c2).mono ?_
  rintro e w1 ⟨he, k, rfl⟩
  rw [HD.out] at he
  obtain ⟨y, v', rfl, rfl, hv'⟩ := he
  rcases hv' with ⟨rfl, rfl⟩ | ⟨a, c, rfl, hc, hb, hcell⟩
  · have hconv : ∀ j, (convert 22 9 (.slice none 0 0)).run Try.prog (w.drewN j) = .ok (.string (str [])) (w.drewN j) := fun j =>
      conv_bytes (P := Try.prog) (Sl.nil_ (w.drewN j) B) 22 5 9 Try.underlying22 Try.underlying5 Try.underlying9
    by_cases hm : m = 0
    · subst hm
      go_wp2_with fail
      go_quiet (fail)
      go_wp2
      go_ret3
      exact ⟨⟨_, _, rfl, rfl, Sl.nil_ _ _⟩, k + nq, by first | rfl | exact World.drewN_drewN ..⟩
    · have hp : (0 : Int) < (m : Int) := by omega
      go_wp2
      all_goals
        go_ret3
        exact ⟨⟨_, _, rfl⟩, k, rfl⟩
  · have hs : Sl w B (.slice (some a) r.length c) r := .inr ⟨a, c, rfl, hc, hb, hcell⟩
    by_cases hm : m ≤ r.length
    · have hconv : ∀ j, (convert 22 9 (.slice (some a) m c)).run Try.prog (w.drewN j) = .ok (.string (str (r.take m))) (w.drewN j) := fun j =>
        conv_bytes (P := Try.prog) ((hs.drewN j).take_ hm) 22 5 9 Try.underlying22 Try.underlying5 Try.underlying9
      have hcell2 := Lib.hid hcell
      have HS := Lib.hid hs
      clear hcell hs
      go_wp2_with fail
      go_quiet (fail)
      go_wp2
      all_goals
        go_ret3
        first
          | exact ⟨⟨_, _, rfl, rfl, HS.out.drop_ (.inl rfl) (by omega)⟩, k + nq, by first | rfl | exact World.drewN_drewN ..⟩
          | exact ⟨⟨_, _, rfl, rfl, HS.out.drop_ (.inr ⟨rfl, by omega⟩) (by omega)⟩, k + nq, by first | rfl | exact World.drewN_drewN ..⟩
    · go_wp2
      go_ret3
      exact ⟨⟨_, _, rfl⟩, k, rfl⟩

theorem textDec_at (v fi : Value) (bs : List UInt8) (B g : Nat) (mx : Int) (w : World) (h : Sl w B v bs) (hlen : bs.length ≤ 1000000000000) (hg : w.cell? ⟨g, 0, none⟩ = some fi) (hi : IntDec w 0 mx fi) :
    Calls Try.prog 54 #[v, .pointer (some ⟨g, 0, none⟩)] w fun e w' => DEnd isText w B (decT mx bs) e ∧ ∃ k, w' = w.drewN k := by
  unfold decT
  cases ho : decI 0 mx bs with
  | none => exact textDec_none v fi bs B g mx w h hlen hg hi ho
  | some p => exact textDec_some v fi bs p.2 p.1 B g mx w h hlen hg hi ho

end Go.Proofs.Ytefonoaffeahjaa
