/-
  Open whole, and the reference's Open.
-/
import Derived.Test.YtjmmhgdafjdmdaaUnseal
namespace Go.Proofs.Ytjmmhgdafjdmdaa
open Go.RowKit

theorem four {l : List UInt8} (h : l.length = 4) : ∃ q0 q1 q2 q3, l = [q0, q1, q2, q3] := by
  match l, h with
  | [q0, q1, q2, q3], _ => exact ⟨_, _, _, _, rfl⟩

theorem Sl.pre {w : World} {B n c : Nat} {A : Option Addr} {bs : List UInt8} {m : Nat} (h : Sl w B (.slice A n c) bs) (hn : bs.length = n) (hm : m ≤ n) : Sl w B (.slice A m c) (bs.take m) := h.head hm hn

theorem unseal_any (A : Option Addr) (n c : Nat) (bs : List UInt8) (w : World) (hs : Sl w w.heap.size (.slice A n c) bs) (hn : bs.length = n) (hlen : n ≤ 900) :
    Calls Try.prog 20 #[.slice A n c] w fun e w' => OpenEnd bs e w' ∧ Below w.heap.size w w' := by
  by_cases h4 : n < 4
  · exact openShort_any A n c bs w hn h4
  · obtain ⟨m, rfl⟩ : ∃ m, n = m + 4 := ⟨n - 4, by omega⟩
    obtain ⟨b, off, rfl, hb, hcell⟩ := hs.some_ (by omega)
    obtain ⟨q0, q1, q2, q3, hq⟩ := four (l := bs.drop m) (by rw [List.length_drop]; omega)
    have hat : ∀ j, bs[m + j]? = [q0, q1, q2, q3][j]? := fun j => by rw [← hq, List.getElem?_drop]
    have h := openLong_any b off c m (bs.take m) q0 q1 q2 q3 w (by rw [List.length_take]; omega) (by omega) hb (hs.cap hn) (hs.pre hn (by omega)) (hcell m q0 (hat 0)) (hcell (m + 1) q1 (hat 1)) (hcell (m + 2) q2 (hat 2)) (hcell (m + 3) q3 (hat 3))
    rw [← hq, List.take_append_drop] at h
    exact h

theorem refSeal_from (W : World) (A : Option Addr) (n c : Nat) (bs : List UInt8) (w : World) (hk : Below W.heap.size W w) (hs : Sl W W.heap.size (.slice A n c) bs) (hn : bs.length = n) (hlen : n ≤ 1000) :
    Calls Try.prog 17 #[.slice A n c] w fun e w' => ∃ v', e = .returned v' ∧ Sl w' w'.heap.size v' (seal_ bs) ∧ Below W.heap.size W w' :=
  (refSeal_any A n c bs _ w (hs.at hk) hn hk.size hlen).mono fun _ _ ⟨v', h1, h2, h3⟩ => ⟨v', h1, Sl.of_own h2, hk.trans (h3.mono hk.size)⟩

theorem OpenEnd.refBad {bs : List UInt8} {w : World} (h4 : ¬ bs.length < 4) (h : seal_ (bs.take (bs.length - 4)) ≠ bs) : OpenEnd bs (.returned (.tuple #[.slice none 0 0, .int .i64 6])) w := by
  have : open_ bs = ([], 6) := by
    unfold open_
    rw [if_neg h4, if_neg]
    intro e
    apply h
    unfold seal_
    rw [← e, List.take_append_drop]
  unfold OpenEnd
  rw [this]
  exact ⟨_, rfl, Sl.nil_ _ _⟩
theorem OpenEnd.refGood {bs : List UInt8} {v : Value} {w : World} (h : seal_ (bs.take (bs.length - 4)) = bs) (hs : Sl w w.heap.size v (bs.take (bs.length - 4))) : OpenEnd bs (.returned (.tuple #[v, .int .i64 0])) w := by
  have e := open_seal (bs.take (bs.length - 4))
  rw [h] at e
  unfold OpenEnd
  rw [e]
  exact ⟨_, rfl, hs⟩

set_option maxHeartbeats 800000 in
theorem refOpenShort_any (A : Option Addr) (n c : Nat) (bs : List UInt8) (w : World) (hn : bs.length = n) (h4 : n < 4) :
    Calls Try.prog 21 #[.slice A n c] w fun e w' => OpenEnd bs e w' ∧ Below w.heap.size w w' := by
  have HE := Lib.hid (OpenEnd.short (bs := bs) (w := w) (by omega))
  clear hn
  go_enter Try.func21, Try.ntmps21
  go_wp2
  go_ret2
  exact ⟨HE.out, Below.refl _ _⟩

set_option maxRecDepth 100000 in
set_option maxHeartbeats 1600000 in
theorem refOpenLong_any (A : Option Addr) (m c : Nat) (bs : List UInt8) (w : World) (hs : Sl w w.heap.size (.slice A (m + 4) c) bs) (hn : bs.length = m + 4) (hlen : m ≤ 900) :
    Calls Try.prog 21 #[.slice A (m + 4) c] w fun e w' => OpenEnd bs e w' ∧ Below w.heap.size w w' := by
  have f2 := slice_head A (m + 4) c m (by have := hs.cap hn; omega)
  have hp := hs.pre hn (show m ≤ m + 4 by omega)
  have hl : (bs.take m).length = m := by rw [List.length_take]; omega
  have hm4 : bs.length - 4 = m := by omega
  obtain ⟨p, hpp⟩ : ∃ p, p = bs.take m := ⟨_, rfl⟩
  rw [← hpp] at hp hl
  have HPP := Lib.hid hpp
  have HL := Lib.hid hl
  have HM := Lib.hid hm4
  have HN := Lib.hid hn
  clear hpp hl hm4 hn
  go_enter Try.func21, Try.ntmps21
  go_wp2
  have hcv0 := conv_bytes (P := Try.prog) (w := w.drew) (hs.below (Below.refl _ _).drew) 22 5 9 Try.underlying22 Try.underlying5 Try.underlying9
  go_region_with (first | (go_at_call 17; refine (refSeal_from w A m c p _ ?_ hp HL.out (by omega)).mono ?_; exact (Below.refl _ _).drew; rintro e wI ⟨vI, rfl, hsI, hbI⟩; have hcvI := conv_bytes (P := Try.prog) hsI 22 5 9 Try.underlying22 Try.underlying5 Try.underlying9; have hcvb := conv_bytes (P := Try.prog) (hs.at hbI) 22 5 9 Try.underlying22 Try.underlying5 Try.underlying9))
  all_goals
    rw [str_toList, str_toList]
    clear hcvI hcvb hcv0
    by_cases hsp : seal_ p = bs
    · have ht : (!(seal_ p == bs)) = false := by rw [hsp, beq_self_eq_true]; rfl
      rw [ht]
      have HSP := Lib.hid hsp
      clear hsp ht
      have h1 : Sl (wI.alloc (.cells #[] 5)) w.heap.size (.slice A m c) p := (hp.at hbI).below ((Below.refl _ _).alloc hbI.size _)
      have hl := HL.out
      go_wp2_with (at_builtin; refine append_bytes _ rfl (.tmp 19) (.tmp 20) rfl wI.heap.size w.heap.size (.slice (some ⟨wI.heap.size, 0, none⟩) 0 0) [] rfl (own_empty wI) p _ rfl h1 (by simp; omega) (by simp) ?_; intro r1 w1 hown1 hb1)
      go_ret2
      refine ⟨OpenEnd.refGood (by rw [HM.out, ← HPP.out]; exact HSP.out) ?_, hbI.trans (((Below.refl _ _).alloc hbI.size _).trans (hb1.mono hbI.size))⟩
      rw [HM.out, ← HPP.out]
      exact Sl.of_own hown1
    · have ht : (!(seal_ p == bs)) = true := by simp [hsp]
      rw [ht]
      have HSP := Lib.hid hsp
      clear hsp ht
      go_wp2
      go_ret2
      exact ⟨OpenEnd.refBad (by have := HN.out; omega) (by rw [HM.out, ← HPP.out]; exact HSP.out), hbI⟩

theorem refUnseal_any (A : Option Addr) (n c : Nat) (bs : List UInt8) (w : World) (hs : Sl w w.heap.size (.slice A n c) bs) (hn : bs.length = n) (hlen : n ≤ 900) :
    Calls Try.prog 21 #[.slice A n c] w fun e w' => OpenEnd bs e w' ∧ Below w.heap.size w w' := by
  by_cases h4 : n < 4
  · exact refOpenShort_any A n c bs w hn h4
  · obtain ⟨m, rfl⟩ : ∃ m, n = m + 4 := ⟨n - 4, by omega⟩
    exact refOpenLong_any A m c bs w hs hn (by omega)

end Go.Proofs.Ytjmmhgdafjdmdaa
