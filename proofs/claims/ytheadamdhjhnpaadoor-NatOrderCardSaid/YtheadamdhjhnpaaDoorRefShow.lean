/-
  The reference's Show.
-/
import Derived.Test.YtheadamdhjhnpaaDoorRefParse
namespace Go.Proofs.YtheadamdhjhnpaaDoor
open Go.RowKit

/-- The quotient's digits of a division by 10. -/
def divL : List Nat → List Nat
  | [] => []
  | d :: l => (vl l % 10 * 65536 + d) / 10 :: divL l
theorem divL_length : ∀ l, (divL l).length = l.length
  | [] => rfl
  | d :: l => by simp [divL, divL_length l]
theorem vl_divL (l : List Nat) : vl (divL l) = vl l / 10 := by
  induction l with
  | nil => rfl
  | cons d l ih => rw [divL, vl, vl, ih]; omega
theorem dig_divL (l : List Nat) (h : Dig l) : Dig (divL l) := by
  induction l with
  | nil => intro d hd; simp [divL] at hd
  | cons d l ih =>
    intro x hx
    rcases List.mem_cons.1 hx with rfl | hx
    · have := h.head
      omega
    · exact ih h.tail x hx
theorem divL_at : ∀ (l : List Nat) (k d : Nat), l[k]? = some d → (divL l)[k]? = some ((vl (l.drop (k + 1)) % 10 * 65536 + d) / 10)
  | [], k, d, h => by simp at h
  | e :: l, 0, d, h => by
    simp at h
    simp [divL, h]
  | e :: l, k + 1, d, h => by
    simp only [List.getElem?_cons_succ] at h
    simp only [divL, List.getElem?_cons_succ, List.drop_succ_cons]
    exact divL_at l k d h

/-- The cells from k on are those of S. -/
def From (S : List Nat) (k : Nat) (cs : Array Value) : Prop := cs.size = S.length ∧ ∀ i u, k ≤ i → S[i]? = some u → cs[i]? = some (nv u)
theorem From.step {S : List Nat} {k : Nat} {cs : Array Value} (h : From S (k + 1) cs) {u : Nat} (hu : S[k]? = some u) : From S k (cs.setIfInBounds k (nv u)) := by
  refine ⟨by simp [h.1], fun i x hi hx => ?_⟩
  by_cases hik : k = i
  · subst hik
    rw [hu] at hx
    injection hx with hx
    rw [Array.getElem?_setIfInBounds_self, if_pos (by rw [h.1]; exact (List.getElem?_eq_some_iff.1 hu).1), hx]
  · rw [Array.getElem?_setIfInBounds_ne hik]
    exact h.2 i x (by omega) hx
theorem From.done {S : List Nat} {n : Nat} {cs : Array Value} {w : World} {g : Nat} {t : TypeId} (h : From S 0 cs) (hb : Box w g t cs) (hn : S.length = n) : Arr nv w (g + 1) (.slice (some ⟨g, 0, none⟩) n n) S :=
  Arr.of_box hb hn (Nat.le_refl _) fun i u hu => h.2 i u (by omega) hu

/-- The decimal digits of a number, none of 0. -/
def decS (n : Nat) : List UInt8 := if n = 0 then [] else decS (n / 10) ++ [UInt8.ofNat (48 + n % 10)]
termination_by n
decreasing_by omega
theorem decS_zero : decS 0 = [] := by rw [decS]; simp
theorem decS_pos {n : Nat} (h : n ≠ 0) : decS n = decS (n / 10) ++ [UInt8.ofNat (48 + n % 10)] := by rw [decS]; simp [h]
def showS : Option Nat → List UInt8
  | none => []
  | some n => if n = 0 then [48] else decS n
def showC : Option Nat → Nat
  | none => 1
  | some _ => 0
def ShowEnd (r : Option Nat) (e : Ending) : Prop := e = .returned (.tuple #[.string (str (showS r)), .int .i64 (showC r : Int)])

theorem lb_mono {a b : Nat} (h : a ≤ b) : lb a ≤ lb b := lb_le.2 (Nat.lt_of_le_of_lt h (lb_le.1 (Nat.le_refl (lb b))))
theorem decS_length (n : Nat) : (decS n).length ≤ lb n := by
  induction n using Nat.strongRecOn with
  | ind n ih =>
    by_cases h : n = 0
    · subst h; rw [decS_zero]; simp
    · rw [decS_pos h, lb_pos h, List.length_append, List.length_singleton]
      have h1 := ih (n / 10) (by omega)
      have h2 := lb_mono (show n / 10 ≤ n / 2 by omega)
      omega
theorem lb_pw {n k : Nat} (h : n < pw k) : lb n ≤ 16 * k := lb_le.2 (by rw [Nat.pow_mul]; exact h)
theorem text_short {a m : Nat} {t : List UInt8} (h : decS m ++ t = decS a) (ha : Sn a) : t.length ≤ 3200 := by
  have h1 := decS_length a
  have h2 := lb_pw (k := 200) ha
  rw [← h, List.length_append] at h1
  omega
theorem conv_one (W : World) (c : UInt8) : (convert 76 9 (.slice (some ⟨W.heap.size, 0, none⟩) 1 1)).run Tryd.prog (W.alloc (.cells #[.int .u8 (c.toNat : Int)] 5)) = .ok (.string (str [c])) (W.alloc (.cells #[.int .u8 (c.toNat : Int)] 5)) := by
  refine conv_bytes (B := W.heap.size + 1) ?_ 76 5 9 Tryd.underlying76 Tryd.underlying5 Tryd.underlying9
  refine Arr.of_box (n := 1) (c := 1) (xs := [c]) (Box.made W 5 #[.int .u8 (c.toNat : Int)]) rfl (Nat.le_refl _) ?_
  intro i u hu
  cases i with
  | zero => simp at hu; subst hu; rfl
  | succ i => simp at hu

set_option maxRecDepth 20000 in
set_option maxHeartbeats 1600000 in
theorem refShow_any (A : Option Addr) (n c : Nat) (xs : List Int) (w : World) (h : Arr iv w w.heap.size (.slice A n c) xs) (hn : n ≤ 9223372036854775807) :
    Calls Tryd.prog 41 #[.slice A n c] w fun e w' => ShowEnd (numOf xs) e ∧ Below w.heap.size w w' := by
  cases hx : numOf xs with
  | none =>
    have HV := Lib.hid (numOf_none hx)
    go_enter Tryd.func41, Tryd.ntmps41
    go_wp2_with fail
    refine (valid_of A n c xs false HV.out _ h hn).mono ?_
    rintro e w1 ⟨rfl, rfl⟩
    go_wp2
    go_ret2
    exact ⟨rfl, Below.refl _ _⟩
  | some a =>
    obtain ⟨hv, ha, hxs⟩ := numOf_some hx
    have hA := arg_num h hx
    have hlen : n = (dg a).length := by rw [← h.len, hxs, List.length_map]
    have HV := Lib.hid hv
    clear hv hx hxs
    by_cases h0 : a = 0
    · have t0 : ((n : Int) == 0) = true := by rw [hlen, h0, dg_zero]; rfl
      subst h0
      clear hlen
      go_enter Tryd.func41, Tryd.ntmps41
      go_wp2_with fail
      refine (valid_of A n c xs true HV.out _ h hn).mono ?_
      rintro e w1 ⟨rfl, rfl⟩
      go_wp2
      go_ret2
      exact ⟨rfl, Below.refl _ _⟩
    · have t0 : ((n : Int) == 0) = false := beq_false_of_ne (by
        have : n ≠ 0 := by rw [hlen]; exact fun e => h0 (dg_eq_nil.1 (List.length_eq_zero_iff.1 e))
        omega)
      have HE : Hid (showS (some a) = decS a) := Lib.hid (if_neg h0)
      have HS := Lib.hid (sn_of ha)
      clear hlen h0 ha
      go_enter Tryd.func41, Tryd.ntmps41
      go_wp2_with fail
      refine (valid_of A n c xs true HV.out _ h hn).mono ?_
      rintro e w1 ⟨rfl, rfl⟩
      go_wp2
      go_loopg [0, 4, 5, 6, 7] a (fun m a_ s_ _ _ _ wr => ∃ t : List UInt8, s_ = .string (str t) ∧ Hid (decS m ++ t = decS a) ∧ Hid (Sn m) ∧ Num wr a_ m ∧ Below w.heap.size w wr)
      case atStart => exact ⟨[], rfl, Lib.hid (List.append_nil _), HS, hA, Below.refl _ _⟩
      case round =>
        obtain ⟨t, rfl, HT, HM, hnum, hbel⟩ := hrel
        by_cases h0 : gk = 0
        · subst h0
          have t1 : decide (0 < (dg 0).length) = false := by rw [dg_zero]; rfl
          obtain ⟨Aa, ca, rfl, har⟩ := hnum
          have HR : Hid (ShowEnd (some a) (.returned (.tuple #[.string (str t), .int .i64 0]))) := Lib.hid (by
            have e := HT.out
            rw [decS_zero, List.nil_append] at e
            unfold ShowEnd
            rw [HE.out, ← e]; rfl)
          go_wp2
          go_ret2
          exact ⟨HR.out, hbel⟩
        · obtain ⟨Aa, ca, rfl, har⟩ := hnum
          obtain ⟨L, hL⟩ : ∃ L, L = (dg gk).length := ⟨_, rfl⟩
          have hL0 : 0 < L := by
            have : (dg gk).length ≠ 0 := fun e => h0 (dg_eq_nil.1 (List.length_eq_zero_iff.1 e))
            omega
          have hL200 : L ≤ 1000 := by rw [hL]; exact HM.out.sm.len
          have t1 : decide (0 < L) = true := by simp; omega
          rw [← hL] at har ⊢
          have hmk : ∀ W : World, (Instr.makeSlice 22 (.int .i64 (L : Int)) (.int .i64 (L : Int))).run Tryd.prog W = .ok (.slice (some ⟨W.heap.size, 0, none⟩) L L) (W.alloc (.cells (madeOf (.int .i64 0) L) 3)) := make_ints L L (Nat.le_refl _) (by omega)
          have HL := Lib.hid hL
          have HD : Hid (decS gk = decS (gk / 10) ++ [UInt8.ofNat (48 + gk % 10)]) := Lib.hid (decS_pos h0)
          have HLT : Hid (gk / 10 < gk) := Lib.hid (by omega)
          obtain ⟨wo, rfl⟩ : ∃ wo : World, wo = wr := ⟨_, rfl⟩
          clear hL h0
          go_wp2
          clear hmk
          go_loopw [6, 7] (fun r i wr => ∃ (j x : Nat) (cs : Array Value), j ≤ L ∧ i = .int .i64 ((j : Int) - 1) ∧ r = .int .i64 (x : Int) ∧ x < 10 ∧ Hid (vl ((dg gk).drop j) % 10 = x) ∧ Hid (From (divL (dg gk)) j cs) ∧ Box wr wo.heap.size 3 cs ∧ Below wo.heap.size wo wr) (fun _ i _ => (intOf i + 1).toNat)
          case atStart => exact ⟨L, 0, _, by omega, rfl, rfl, by omega, Lib.hid (by rw [HL.out, List.drop_length]; rfl), Lib.hid ⟨by rw [madeOf_size, divL_length, HL.out], fun i u hi hu => by have := (List.getElem?_eq_some_iff.1 hu).1; rw [divL_length, ← HL.out] at this; omega⟩, Box.made _ _ _, (Below.refl _ _).alloc (Nat.le_refl _) _⟩
          case round =>
            obtain ⟨j, x, cs, hj, rfl, rfl, hx, HX, HF, hbox, hbel2⟩ := hrel
            cases j with
            | zero =>
              have t2 : decide ((0 : Int) ≤ ((0 : Nat) : Int) - 1) = false := rfl
              have hx2 : x = gk % 10 := by have := HX.out; rw [List.drop_zero, vl_dg] at this; exact this.symm
              obtain ⟨ch, hch⟩ : ∃ ch : UInt8, ch = UInt8.ofNat (48 + x) := ⟨_, rfl⟩
              have hchn : (ch.toNat : Int) = 48 + (x : Int) := by
                rw [hch, UInt8.toNat_ofNat']
                omega
              have e1 : IntKind.u8.wrap (48 + (x : Int)) = (ch.toNat : Int) := by rw [wraps_u8 _ (by omega) (by omega), hchn]
              have e2 : IntKind.i64.wrap (48 + (x : Int)) = 48 + (x : Int) := wraps_i64 _ (by omega) (by omega)
              have hcv := conv_one wr ch
              have HT2 : Hid (decS (gk / 10) ++ ([ch] ++ t) = decS a) := Lib.hid (by rw [← HT.out, HD.out, hch, hx2, List.append_assoc])
              have hap := str_append [ch] t
              have hts := text_short HT.out HS.out
              have hs1 : (str t).size = t.length := rfl
              have hs2 : (str [ch]).size = 1 := rfl
              have hA2 := HF.out.done (n := L) hbox (by rw [divL_length]; exact HL.out.symm)
              have HTR : Hid (tr (divL (dg gk)) = dg (gk / 10)) := Lib.hid (by rw [tr_eq _ (dig_divL _ (dig_dg gk)), vl_divL, vl_dg])
              have hA3 := (hA2.more hbox.lt)
              have hb3 := below_new hbel2 (.cells #[.int .u8 (ch.toNat : Int)] 5)
              have hA4 := hA3.up ((Below.refl wr.heap.size wr).alloc (Nat.le_refl _) (.cells #[.int .u8 (ch.toNat : Int)] 5))
              have HM2 : Hid (Sn (gk / 10)) := Lib.hid (lt_le (a := pw 200) HM.out (by omega))
              clear hx2 hch hchn hA2 hA3
              go_wp2_with fail
              refine (trim_at wo _ L L _ _ _ hb3 hA4 HTR.out (by omega)).mono ?_
              rintro e w2 ⟨A2, c2, rfl, hA5, k2⟩
              go_wp2
              go_roundg (gk / 10)
              case rel => exact ⟨[ch] ++ t, rfl, HT2, HM2, ⟨A2, c2, rfl, hA5⟩, below_next hbel k2⟩
              case measure => exact HLT.out
            | succ j =>
              obtain ⟨b0, o0, rfl, hB0, hc0⟩ := har.some_ (by omega)
              obtain ⟨d, hdt⟩ : ∃ d, (dg gk)[j]? = some d := ⟨_, List.getElem?_eq_getElem (by have := HL.out; omega)⟩
              have d0 := (hbel2.cell (p := ⟨b0, o0 + j, none⟩) hB0).trans (hc0 j d hdt)
              simp only [nv] at d0
              have hd := (dig_dg gk).at_ hdt
              have hst := vl_drop1 hdt
              have HX2 : Hid (vl ((dg gk).drop j) % 10 = (x * 65536 + d) % 10) := Lib.hid (by rw [hst]; have := HX.out; omega)
              have hq := divL_at _ j d hdt
              rw [HX.out] at hq
              have HF2 := Lib.hid (HF.out.step hq)
              obtain ⟨x2, hx2⟩ : ∃ v, cs[j]? = some v := ⟨_, Array.getElem?_eq_getElem (show j < cs.size by rw [HF.out.1, divL_length]; have := HL.out; omega)⟩
              have d3 := hbox.cell j
              rw [hx2] at d3
              have hf := hbox.free j
              have i0 : ((j + 1 : Nat) : Int) - 1 = (j : Int) := by omega
              have i1 : (j : Int) < (L : Int) := by omega
              clear hc0 hdt hst hq hx2
              rw [i0]
              go_wp2
              go_roundw
              case rel =>
                have hv : Value.int .i64 (((x : Int) * 65536 + (d : Int)) / 10) = nv ((x * 65536 + d) / 10) := value_int (by omega)
                rw [hv]
                exact ⟨j, (x * 65536 + d) % 10, _, by omega, by go_num, by go_num, by omega, HX2, HF2, hbox.put _ _, hbel2.setCell (Nat.le_refl _) _⟩
              case measure => simp [intOf]

end Go.Proofs.YtheadamdhjhnpaaDoor
