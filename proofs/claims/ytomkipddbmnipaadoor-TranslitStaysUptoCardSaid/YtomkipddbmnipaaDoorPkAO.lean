/-
  The program's sides, encoded, Valid: a set of the sides seen, in a map of the call's own.
  The reference's To, Back, Covers, Reversible of translit.
  The program's Reversible.
-/
import Derived.Test.YtomkipddbmnipaaDoorKWrite
import Derived.Maps.OwnSet
import Derived.Test.YtomkipddbmnipaaDoorPkAM
import Derived.StillTailTactics
namespace Go.Proofs.YtomkipddbmnipaaDoor
open Go.RowKit Go.Maps

theorem side_count (s : List UInt8) : sideB s = (decide (1 ≤ countR s) && decide (countR s ≤ 6)) := by
  unfold sideB
  cases h : decR s with
  | none => rw [countR_none h]; rfl
  | some l => rw [countR_some h]
theorem enc_count {s : List UInt8} (h0 : s ≠ []) : (decR s).isSome = decide (0 < countR s) := by
  cases h : decR s with
  | none => rw [countR_none h]; rfl
  | some l =>
    obtain ⟨c, m, rfl, _⟩ := cut1_some h h0
    rw [countR_some h]
    simp

set_option maxRecDepth 20000 in
set_option maxHeartbeats 1600000 in
theorem isSide_any (s : List UInt8) (w : World) (hS : Ready7 w) (hlen : s.length ≤ 10000) :
    Calls Tryd.prog 30 #[.string (str s)] w fun e w' => e = .returned (.bool (sideB s)) ∧ Below w.heap.size w w' := by
  have HC := Lib.hid (prCount_any s w hS.1 hlen)
  rw [side_count]
  obtain ⟨m, hm⟩ : ∃ m, countR s = m := ⟨_, rfl⟩
  rw [hm] at HC ⊢
  clear hm hS
  by_cases h1 : 1 ≤ m
  · have t1 : decide (1 ≤ (m : Int)) = true := by simp; omega
    have t1' : decide (1 ≤ m) = true := by simpa using h1
    by_cases h2 : m ≤ 6
    · have t2 : decide ((m : Int) ≤ 6) = true := by simp; omega
      have t2' : decide (m ≤ 6) = true := by simpa using h2
      rw [t1', t2']
      go_enter Tryd.func30, Tryd.ntmps30
      go_wp2_with fail
      refine HC.out.mono ?_
      rintro e w1 ⟨rfl, k1⟩
      go_wp2
      go_ret
      exact ⟨rfl, k1⟩
    · have t2 : decide ((m : Int) ≤ 6) = false := by simp; omega
      have t2' : decide (m ≤ 6) = false := by simpa using h2
      rw [t1', t2']
      go_enter Tryd.func30, Tryd.ntmps30
      go_wp2_with fail
      refine HC.out.mono ?_
      rintro e w1 ⟨rfl, k1⟩
      go_wp2
      go_ret
      exact ⟨rfl, k1⟩
  · have t1 : decide (1 ≤ (m : Int)) = false := by simp; omega
    have t1' : decide (1 ≤ m) = false := by simpa using h1
    rw [t1']
    go_enter Tryd.func30, Tryd.ntmps30
    go_wp2_with fail
    refine HC.out.mono ?_
    rintro e w1 ⟨rfl, k1⟩
    go_wp2
    go_ret
    exact ⟨rfl, k1⟩

set_option maxRecDepth 20000 in
set_option maxHeartbeats 1600000 in
theorem prEnc7_any (s : List UInt8) (w : World) (hS : Ready7 w) (hlen : s.length ≤ 10000) :
    Calls Tryd.prog 34 #[.string (str s)] w fun e w' => e = .returned (.bool (decR s).isSome) ∧ Below w.heap.size w w' := by
  have HC := Lib.hid (prCount_any s w hS.1 hlen)
  by_cases h0 : s = []
  · subst h0
    have z0 : (str ([] : List UInt8)).toList = [] := str_toList []
    have z1 : ((str ([] : List UInt8)).toList == []) = true := by rw [z0]; rfl
    clear HC hS
    go_enter Tryd.func34, Tryd.ntmps34
    go_wp2
    go_ret
    exact ⟨rfl, Below.refl _ _⟩
  · have z0 : ¬ (str s).toList = [] := by rw [str_toList]; exact h0
    have z1 := strs_ne h0
    have z2 := strs_some h0
    rw [enc_count h0]
    obtain ⟨m, hm⟩ : ∃ m, countR s = m := ⟨_, rfl⟩
    rw [hm] at HC ⊢
    clear hm hS h0
    by_cases h1 : 0 < m
    · have t1 : decide (0 < (m : Int)) = true := by simp; omega
      have t1' : decide (0 < m) = true := by simpa using h1
      rw [t1']
      go_enter Tryd.func34, Tryd.ntmps34
      go_wp2_with fail
      refine HC.out.mono ?_
      rintro e w1 ⟨rfl, k1⟩
      go_wp2
      go_ret
      exact ⟨rfl, k1⟩
    · have t1 : decide (0 < (m : Int)) = false := by simp; omega
      have t1' : decide (0 < m) = false := by simpa using h1
      rw [t1']
      go_enter Tryd.func34, Tryd.ntmps34
      go_wp2_with fail
      refine HC.out.mono ?_
      rintro e w1 ⟨rfl, k1⟩
      go_wp2
      go_ret
      exact ⟨rfl, k1⟩

/-- Which sides have been seen. -/
def Seen (D : DataW Unit) (l : List RuleL) : Prop := IsMap D ∧ ∀ p : List UInt8, D.atKey (.string p) (.lit (.bool false)) = .lit (.bool (!(l.all fun y => decide (y.1 ≠ p))))
theorem seen_nil : Seen (.map []) [] := ⟨isMap_empty, fun _ => rfl⟩
theorem seen_next {D : DataW Unit} {l : List RuleL} (h : Seen D l) (x : RuleL) : Seen (D.put (.string x.1) (.lit (.bool true))) (l ++ [x]) := by
  refine ⟨h.1.put _ _, fun p => ?_⟩
  by_cases hp : x.1 = p
  · subst hp
    rw [atKey_put_same (k := .string x.1) h.1 trivial]
    simp
  · rw [atKey_put_other (fun e => hp (by injection e with e; exact e.symm)), h.2 p]
    rw [List.all_append]
    simp [hp]
theorem plain_bool_inv {P : Program} {e : TypeId} (he : P.underlying e = some .bool) {v : Value} {b : Bool} {ps : List MemPlace} (h : plainElem (H := Unit) P e v = some (.lit (.bool b), ps)) : v = .bool b := by
  unfold plainElem at h
  rw [he] at h
  cases v <;> simp at h
  rw [h.1]
/-- The look-up of a side, in whatever world the map stands. -/
theorem seen_look {D : DataW Unit} {l : List RuleL} (h : Seen D l) {b n : Nat} {W : World} (hown : W.ownsMap Tryd.prog 9 (plainElem Tryd.prog 4) b n D) (p : List UInt8) (hp : p.length ≤ 1000000) :
    (Instr.lookup 45 (.map (some b)) (.string (str p)) false).run Tryd.prog W = .ok (.bool (!(l.all fun y => decide (y.1 ≠ p)))) W := by
  have hkey : keyOf Tryd.prog 9 (.string (str p)) = some (.string (str p).data.toList) := WideMaps.keyOf_string_mk (P := Tryd.prog) Tryd.underlying9 (by rw [str_size]; unfold maxLen; omega)
  have ep : (str p).data.toList = p := by simp [str]
  rw [ep] at hkey
  obtain ⟨v, ps, hrun, hv⟩ := hown.lookup (string_keyed Tryd.underlying9) Tryd.underlying45 (Tryd.zeroValue4 W) (zd := .lit (.bool false)) (zp := []) (plainElem_bool Tryd.underlying4 false) hkey
  rw [h.2 p] at hv
  rw [hrun, plain_bool_inv Tryd.underlying4 hv]

theorem map_kept {w w' : World} {D : DataW Unit} {b n : Nat} (h : w.ownsMap Tryd.prog 9 (plainElem Tryd.prog 4) b n D) (hb : Below w.heap.size w w') : w'.ownsMap Tryd.prog 9 (plainElem Tryd.prog 4) b n D := h.kept (grown_below hb none) (by simp)

set_option maxRecDepth 20000 in
set_option maxHeartbeats 6400000 in
theorem prValid7_any (A : Option Addr) (n c : Nat) (t : List RuleL) (w : World) (hS : Ready7 w) (h : Table w A n c t) :
    Calls Tryd.prog 13 #[.slice A n c] w fun e w' => e = .returned (.bool (validL t)) ∧ Below w.heap.size w w' := by
  have HL := Lib.hid h.arr.len
  have hn := h.few
  have HSh := Lib.hid h.short
  have HRdy := Lib.hid hS
  obtain ⟨R, hR⟩ : ∃ R, validL t = R := ⟨_, rfl⟩
  rw [hR]
  have HR := Lib.hid hR
  clear hR hS
  by_cases h1 : n < 1
  · have t1 : decide ((n : Int) < 1) = true := by simp; omega
    have HE : Hid (R = false) := Lib.hid (by
      rw [← HR.out]
      unfold validL
      rw [HL.out, decide_eq_false (show ¬ 1 ≤ n by omega)]
      simp)
    go_enter Tryd.func13, Tryd.ntmps13
    go_wp2
    go_ret
    rw [HE.out]
    exact ⟨rfl, Below.refl _ _⟩
  have t1 : decide ((n : Int) < 1) = false := by simp; omega
  by_cases h2 : 80 < n
  · have t2 : decide (80 < (n : Int)) = true := by simp; omega
    have HE : Hid (R = false) := Lib.hid (by
      rw [← HR.out]
      unfold validL
      rw [HL.out, decide_eq_false (show ¬ n ≤ 80 by omega)]
      simp)
    go_enter Tryd.func13, Tryd.ntmps13
    go_wp2
    go_ret
    rw [HE.out]
    exact ⟨rfl, Below.refl _ _⟩
  have t2 : decide (80 < (n : Int)) = false := by simp; omega
  have hmm := @run_makeMap Tryd.prog
  go_enter Tryd.func13, Tryd.ntmps13
  go_wp2
  go_loopw [17] (fun i wr => ∃ (k : Nat) (D : DataW Unit), k ≤ n ∧ i = .int .i64 (k : Int) ∧ Hid (preB (t.take k) = true) ∧ Hid (Seen D (t.take k)) ∧ Hid (wr.ownsMap Tryd.prog 9 (plainElem Tryd.prog 4) w.heap.size k D) ∧ Below w.heap.size w wr) (fun i _ => n - (intOf i).toNat)
  case atStart => exact ⟨0, .map [], by omega, rfl, Lib.hid rfl, Lib.hid seen_nil, Lib.hid (World.ownsMap_made _ _ _ _), (Below.refl _ _).alloc (Nat.le_refl _) _⟩
  case round =>
    obtain ⟨k, D, hk, rfl, HP, HD, HO, hb⟩ := hrel
    by_cases hlt : k < n
    · have t3 : decide ((k : Int) < (n : Int)) = true := by simp; omega
      have kz : (k : Int) < (n : Int) := by omega
      obtain ⟨b0, o0, rfl, hB0, hc0⟩ := h.cells (by omega)
      obtain ⟨x, hx⟩ : ∃ a, t[k]? = some a := ⟨_, List.getElem?_eq_getElem (by have := HL.out; omega)⟩
      have hxs := HSh.out x (List.mem_of_getElem? hx)
      have d0 := (hb.cell (p := ⟨b0, o0 + k * 2, none⟩) hB0).trans (hc0 k x hx).1
      have d1 := (hb.cell (p := ⟨b0, o0 + k * 2 + 1, none⟩) hB0).trans (hc0 k x hx).2
      have HTk : Hid (t.take (k + 1) = t.take k ++ [x]) := Lib.hid (take_next hx)
      have HN : Hid (preB (t.take (k + 1)) = (sideB x.1 && sideB x.2 && (t.take k).all fun y => decide (y.1 ≠ x.1))) := Lib.hid (by rw [take_next hx, pre_snoc, HP.out]; rfl)
      have hba := (Below.refl wr.heap.size wr).alloc (Nat.le_refl _) (.cells #[.string (str x.1), .string (str x.2)] 41)
      have HP1 := Lib.hid (isSide_any x.1 _ ((HRdy.out.below hb).below hba) (by omega))
      obtain ⟨s1, hs1⟩ : ∃ z, sideB x.1 = z := ⟨_, rfl⟩
      obtain ⟨s2, hs2⟩ : ∃ z, sideB x.2 = z := ⟨_, rfl⟩
      obtain ⟨s3, hs3⟩ : ∃ z, (t.take k).all (fun y => decide (y.1 ≠ x.1)) = z := ⟨_, rfl⟩
      rw [hs1, hs2, hs3] at HN
      rw [hs1] at HP1
      have HS2 := Lib.hid hs2
      have HS3 := Lib.hid hs3
      have HBA := Lib.hid hba
      have hxx : x.1.length ≤ 1000 ∧ x.2.length ≤ 1000 := hxs
      clear hc0 hx hs1 hs2 hs3 hba hxs
      go_wp2_with fail
      refine HP1.out.mono ?_
      rintro e w1 ⟨rfl, k1⟩
      have b1 : Below wr.heap.size wr w1 := below_next HBA.out k1
      have bw1 : Below w.heap.size w w1 := below_next hb b1
      have c0 : w1.cell? ⟨wr.heap.size, 0, none⟩ = some (.string (str x.1)) := (k1.cell (p := ⟨wr.heap.size, 0, none⟩) (by simp)).trans (by simp)
      have c1 : w1.cell? ⟨wr.heap.size, 1, none⟩ = some (.string (str x.2)) := (k1.cell (p := ⟨wr.heap.size, 1, none⟩) (by simp)).trans (by simp)
      have hs1 : wr.heap.size < w1.heap.size := by have := k1.size; simp at this; omega
      have HO1 := Lib.hid (map_kept HO.out b1)
      clear k1 d0 d1
      cases s1 with
      | false =>
        have HE : Hid (R = false) := Lib.hid (by rw [← HR.out]; exact valid_no (k := k + 1) (by rw [HN.out]; rfl))
        go_wp2
        go_ret
        rw [HE.out]
        exact ⟨rfl, bw1⟩
      | true =>
        have HP2 := Lib.hid (isSide_any x.2 w1 (HRdy.out.below bw1) (by omega))
        rw [HS2.out] at HP2
        go_wp2_with fail
        refine HP2.out.mono ?_
        rintro e w2 ⟨rfl, k2⟩
        have bw2 : Below w.heap.size w w2 := below_next bw1 k2
        have c2 : w2.cell? ⟨wr.heap.size, 0, none⟩ = some (.string (str x.1)) := (k2.cell (p := ⟨wr.heap.size, 0, none⟩) hs1).trans c0
        have hO2 := map_kept HO1.out k2
        have hlook := seen_look HD.out hO2 x.1 (by omega)
        rw [HS3.out] at hlook
        have HO2 := Lib.hid hO2
        clear k2 c0 c1 hO2
        cases s2 with
        | false =>
          have HE : Hid (R = false) := Lib.hid (by rw [← HR.out]; exact valid_no (k := k + 1) (by rw [HN.out]; rfl))
          go_wp2
          go_ret
          rw [HE.out]
          exact ⟨rfl, bw2⟩
        | true =>
          cases s3 with
          | false =>
            have HE : Hid (R = false) := Lib.hid (by rw [← HR.out]; exact valid_no (k := k + 1) (by rw [HN.out]; rfl))
            simp only [Bool.not_false] at hlook
            go_wp2
            go_ret
            rw [HE.out]
            exact ⟨rfl, bw2⟩
          | true =>
            simp only [Bool.not_true] at hlook
            have hkey : keyOf Tryd.prog 9 (.string (str x.1)) = some (.string (str x.1).data.toList) := WideMaps.keyOf_string_mk (P := Tryd.prog) Tryd.underlying9 (by rw [str_size]; unfold maxLen; omega)
            have ep : (str x.1).data.toList = x.1 := by simp [str]
            rw [ep] at hkey
            have hO2 := HO2.out
            have HSN : Hid (Seen (D.put (.string x.1) (.lit (.bool true))) (t.take (k + 1))) := Lib.hid (by rw [HTk.out]; exact seen_next HD.out x)
            have HPN : Hid (preB (t.take (k + 1)) = true) := Lib.hid (by rw [HN.out]; rfl)
            clear ep
            go_wp2_with (first
              | (at_mapUpdate; refine wpList_mapUpdate_own _ rfl _ _ _ 45 rfl 9 4 (string_keyed Tryd.underlying9) Tryd.underlying45 _ w.heap.size k _ rfl hO2 (by unfold maxLen; omega) _ _ _ rfl rfl hkey _ [] (plainElem_bool Tryd.underlying4 true) ?_)
              | go_in)
            intro w3 hown3 hgrow3
            have HO3 := Lib.hid hown3
            have hb3 := bw2.grown hgrow3 bw2.size (fun j hj => by cases hj; exact Nat.le_refl _)
            clear hown3 hgrow3 hO2 hlook hkey
            go_wp2
            go_roundw
            case rel => exact ⟨k + 1, _, by omega, by go_num, HPN, HSN, HO3, hb3⟩
            case measure => simp [intOf]; omega
    · obtain rfl : k = n := by omega
      have t3 : decide ((k : Int) < (k : Int)) = false := by simp
      have HE : Hid (R = true) := Lib.hid (by
        rw [← HR.out, valid_end (by have := HP.out; rwa [List.take_of_length_le (by rw [HL.out]; omega)] at this), HL.out, decide_eq_true (show 1 ≤ k by omega), decide_eq_true (show k ≤ 80 by omega)]
        rfl)
      go_wp2
      go_ret
      rw [HE.out]
      exact ⟨rfl, hb⟩

end Go.Proofs.YtomkipddbmnipaaDoor

namespace Go.Proofs.YtomkipddbmnipaaDoor
open Go.RowKit

def revB (t : List RuleL) : Bool := freeBB [] t && validL t
theorem free_to : ∀ (t p : List RuleL), (∀ (i k : Nat) (x y : RuleL), t[i]? = some x → (p ++ t)[k]? = some y → p.length + i ≠ k → begB y.2 x.2 = false) → freeBB p t = true
  | [], p, _ => rfl
  | z :: t, p, h => by
    rw [freeBB, Bool.and_eq_true, List.all_eq_true]
    refine ⟨fun y hy => ?_, free_to t (p ++ [z]) fun i k x y hi hk hne => ?_⟩
    · rcases List.mem_append.1 hy with hy | hy
      · obtain ⟨k, hk⟩ := List.getElem?_of_mem hy
        have hkl := (List.getElem?_eq_some_iff.1 hk).1
        have := h 0 k z y rfl (by rw [List.getElem?_append_left hkl]; exact hk) (by omega)
        simpa using this
      · obtain ⟨k, hk⟩ := List.getElem?_of_mem hy
        have := h 0 (p.length + (k + 1)) z y rfl (by rw [List.getElem?_append_right (by omega)]; simpa using hk) (by omega)
        simpa using this
    · rw [List.length_append, List.length_singleton] at hne
      exact h (i + 1) k x y (by simpa using hi) (by simpa using hk) (by omega)
theorem rev_no {t : List RuleL} {i k : Nat} {x y : RuleL} (hi : t[i]? = some x) (hk : t[k]? = some y) (hne : i ≠ k) (hb : begB y.2 x.2 = true) : revB t = false := by
  unfold revB
  cases hf : freeBB [] t with
  | false => rfl
  | true => rw [free_all hf i k x y hi hk hne] at hb; cases hb

section
variable (A : Option Addr) (n c : Nat) (t : List RuleL) (s : List UInt8) (w : World)
set_option maxRecDepth 20000 in
set_option maxHeartbeats 1600000 in
theorem refTo7_any (h : Table w A n c t) (hlen : s.length ≤ 5000) :
    Calls Tryd.prog 18 #[.slice A n c, .string (str s)] w fun e w' => e = .returned (.string (str (toL t s))) ∧ Below w.heap.size w w' := by
  have HV := Lib.hid (refValid7_any A n c t w h)
  have HE := Lib.hid fun W => refEncoded7_any s W (by omega)
  have HT := Lib.hid h
  have hR : toL t s = if validL t = true ∧ (decR s).isSome = true then (runL t s).1 else [] := rfl
  obtain ⟨R, hR2⟩ : ∃ R, toL t s = R := ⟨_, rfl⟩
  rw [hR2] at hR ⊢
  cases hv : validL t with
  | false =>
    have HR : Hid (R = []) := Lib.hid (by rw [hR, hv]; simp)
    rw [hv] at HV
    clear hR hR2 hv h
    go_enter Tryd.func18, Tryd.ntmps18
    go_wp2_with fail
    refine HV.out.mono ?_
    rintro e w1 ⟨rfl, k1⟩
    go_wp2
    go_ret
    rw [HR.out]
    exact ⟨rfl, k1⟩
  | true =>
    cases he : decR s with
    | none =>
      have HR : Hid (R = []) := Lib.hid (by rw [hR, he]; simp)
      rw [hv] at HV
      rw [he] at HE
      clear hR hR2 hv h he
      go_enter Tryd.func18, Tryd.ntmps18
      go_wp2_with fail
      refine HV.out.mono ?_
      rintro e w1 ⟨rfl, k1⟩
      go_wp2_with fail
      refine (HE.out _).mono ?_
      rintro e w2 ⟨rfl, k2⟩
      simp only [Option.isSome_none]
      go_wp2
      go_ret
      rw [HR.out]
      exact ⟨rfl, below_next k1 k2⟩
    | some L =>
      have HR : Hid (R = (runL t s).1) := Lib.hid (by rw [hR, hv, he]; simp)
      have HRu := Lib.hid fun W (hW : Table W A n c t) => refRun_any A n c t s L W hW (good_of (valid_of hv)) he hlen
      rw [hv] at HV
      rw [he] at HE
      obtain ⟨r1, hr1⟩ : ∃ r, (runL t s).1 = r := ⟨_, rfl⟩
      obtain ⟨r2, hr2⟩ : ∃ r, (runL t s).2 = r := ⟨_, rfl⟩
      rw [hr1, hr2] at HRu
      rw [hr1] at HR
      clear hR hR2 hv h he hr1 hr2
      go_enter Tryd.func18, Tryd.ntmps18
      go_wp2_with fail
      refine HV.out.mono ?_
      rintro e w1 ⟨rfl, k1⟩
      go_wp2_with fail
      refine (HE.out _).mono ?_
      rintro e w2 ⟨rfl, k2⟩
      simp only [Option.isSome_some]
      have hb2 := below_next k1 k2
      have HT2 := Lib.hid (HT.out.up hb2)
      go_wp2_with fail
      refine (HRu.out _ HT2.out).mono ?_
      rintro e w3 ⟨rfl, k3⟩
      go_wp2
      go_ret
      rw [HR.out]
      exact ⟨rfl, below_next hb2 k3⟩

set_option maxRecDepth 20000 in
set_option maxHeartbeats 1600000 in
theorem refCovers7_any (h : Table w A n c t) (hlen : s.length ≤ 5000) :
    Calls Tryd.prog 22 #[.slice A n c, .string (str s)] w fun e w' => e = .returned (.bool (coversL t s)) ∧ Below w.heap.size w w' := by
  have HV := Lib.hid (refValid7_any A n c t w h)
  have HE := Lib.hid fun W => refEncoded7_any s W (by omega)
  have HT := Lib.hid h
  have hR : coversL t s = (validL t && (decR s).isSome && decide ((runL t s).2 = 0)) := rfl
  obtain ⟨R, hR2⟩ : ∃ R, coversL t s = R := ⟨_, rfl⟩
  rw [hR2] at hR ⊢
  cases hv : validL t with
  | false =>
    have HR : Hid (R = false) := Lib.hid (by rw [hR, hv]; rfl)
    rw [hv] at HV
    clear hR hR2 hv h
    go_enter Tryd.func22, Tryd.ntmps22
    go_wp2_with fail
    refine HV.out.mono ?_
    rintro e w1 ⟨rfl, k1⟩
    go_wp2
    go_ret
    rw [HR.out]
    exact ⟨rfl, k1⟩
  | true =>
    cases he : decR s with
    | none =>
      have HR : Hid (R = false) := Lib.hid (by rw [hR, he, hv]; rfl)
      rw [hv] at HV
      rw [he] at HE
      clear hR hR2 hv h he
      go_enter Tryd.func22, Tryd.ntmps22
      go_wp2_with fail
      refine HV.out.mono ?_
      rintro e w1 ⟨rfl, k1⟩
      go_wp2_with fail
      refine (HE.out _).mono ?_
      rintro e w2 ⟨rfl, k2⟩
      simp only [Option.isSome_none]
      go_wp2
      go_ret
      rw [HR.out]
      exact ⟨rfl, below_next k1 k2⟩
    | some L =>
      have HR0 : R = decide ((runL t s).2 = 0) := by rw [hR, hv, he]; simp
      have HRu := Lib.hid fun W (hW : Table W A n c t) => refRun_any A n c t s L W hW (good_of (valid_of hv)) he hlen
      rw [hv] at HV
      rw [he] at HE
      obtain ⟨r1, hr1⟩ : ∃ r, (runL t s).1 = r := ⟨_, rfl⟩
      obtain ⟨r2, hr2⟩ : ∃ r, (runL t s).2 = r := ⟨_, rfl⟩
      rw [hr1, hr2] at HRu
      rw [hr2] at HR0
      have ht : ((r2 : Int) == 0) = R := by
        rw [HR0]
        by_cases h0 : r2 = 0
        · rw [h0]; rfl
        · rw [decide_eq_false h0]; exact eqb_false (by omega)
      clear hR hR2 hv h he hr1 hr2 HR0
      go_enter Tryd.func22, Tryd.ntmps22
      go_wp2_with fail
      refine HV.out.mono ?_
      rintro e w1 ⟨rfl, k1⟩
      go_wp2_with fail
      refine (HE.out _).mono ?_
      rintro e w2 ⟨rfl, k2⟩
      simp only [Option.isSome_some]
      have hb2 := below_next k1 k2
      have HT2 := Lib.hid (HT.out.up hb2)
      go_wp2_with fail
      refine (HRu.out _ HT2.out).mono ?_
      rintro e w3 ⟨rfl, k3⟩
      go_wp2
      go_ret
      exact ⟨rfl, below_next hb2 k3⟩

set_option maxRecDepth 20000 in
set_option maxHeartbeats 3200000 in
theorem refReversible_any (h : Table w A n c t) :
    Calls Tryd.prog 16 #[.slice A n c] w fun e w' => e = .returned (.bool (revB t)) ∧ Below w.heap.size w w' := by
  have HL := Lib.hid h.arr.len
  have hn := h.few
  have HSh := Lib.hid h.short
  have HV := Lib.hid fun W (hW : Table W A n c t) => refValid7_any A n c t W hW
  have HT := Lib.hid h
  obtain ⟨R, hR⟩ : ∃ R, revB t = R := ⟨_, rfl⟩
  rw [hR]
  have HR := Lib.hid hR
  clear hR
  go_enter Tryd.func16, Tryd.ntmps16
  go_wp2
  go_loopw [3] (fun i wr => ∃ k : Nat, k ≤ n ∧ i = .int .i64 (k : Int) ∧ Hid (∀ (a b : Nat) (x y : RuleL), a < k → t[a]? = some x → t[b]? = some y → a ≠ b → begB y.2 x.2 = false) ∧ Below w.heap.size w wr) (fun i _ => n - (intOf i).toNat)
  case atStart => exact ⟨0, by omega, rfl, Lib.hid (fun a b x y ha => absurd ha (by omega)), Below.refl _ _⟩
  case round =>
    obtain ⟨k, hk, rfl, HP, hb⟩ := hrel
    by_cases hlt : k < n
    · have t1 : decide ((k : Int) < (n : Int)) = true := by simp; omega
      have kz : (k : Int) < (n : Int) := by omega
      obtain ⟨b0, o0, rfl, hB0, hc0⟩ := h.cells (by omega)
      obtain ⟨x, hx⟩ : ∃ a, t[k]? = some a := ⟨_, List.getElem?_eq_getElem (by have := HL.out; omega)⟩
      have hxs := HSh.out x (List.mem_of_getElem? hx)
      have Hc0 := Lib.hid hc0
      have HX := Lib.hid hx
      clear hc0 hx
      go_wp2
      go_loopw [4] (fun i wi => ∃ j : Nat, j ≤ n ∧ i = .int .i64 (j : Int) ∧ Hid (∀ (b : Nat) (y : RuleL), b < j → t[b]? = some y → k ≠ b → begB y.2 x.2 = false) ∧ Below w.heap.size w wi) (fun i _ => n - (intOf i).toNat)
      case atStart => exact ⟨0, by omega, rfl, Lib.hid (fun b y hb => absurd hb (by omega)), hb⟩
      case round =>
        obtain ⟨j, hj, rfl, HJ, hbi⟩ := hrel
        by_cases hjl : j < n
        · have t2 : decide ((j : Int) < (n : Int)) = true := by simp; omega
          have jz : (j : Int) < (n : Int) := by omega
          obtain ⟨y, hy⟩ : ∃ a, t[j]? = some a := ⟨_, List.getElem?_eq_getElem (by have := HL.out; omega)⟩
          have hys := HSh.out y (List.mem_of_getElem? hy)
          by_cases hkj : k = j
          · have t3 : ((k : Int) != (j : Int)) = false := by rw [hkj]; simp
            have HJ2 : Hid (∀ (b : Nat) (y : RuleL), b < j + 1 → t[b]? = some y → k ≠ b → begB y.2 x.2 = false) := Lib.hid fun b y hb hy hne => HJ.out b y (by omega) hy hne
            clear hy hkj
            go_wp2
            go_quiet (fail)
            go_wp2
            go_roundw
            case rel => exact ⟨j + 1, by omega, by go_num, HJ2, below_drewN hbi _⟩
            case measure => simp [intOf]; omega
          · have t3 : ((k : Int) != (j : Int)) = true := by simp; omega
            have d0 := (hbi.cell (p := ⟨b0, o0 + k * 2 + 1, none⟩) hB0).trans (Hc0.out k x HX.out).2
            have d1 := (hbi.cell (p := ⟨b0, o0 + j * 2 + 1, none⟩) hB0).trans (Hc0.out j y hy).2
            have HBg := Lib.hid fun W => refBegins_any y.2 x.2 W (by omega) (by omega)
            obtain ⟨bb, hbb⟩ : ∃ b, begB y.2 x.2 = b := ⟨_, rfl⟩
            rw [hbb] at HBg
            cases bb with
            | true =>
              have HE : Hid (R = false) := Lib.hid (by rw [← HR.out]; exact rev_no HX.out hy hkj hbb)
              clear hy hkj hbb
              go_wp2
              go_quiet ((go_at_call 33; exact Calls.quiet_of_same (HBg.out _)))
              go_wp2
              go_ret
              rw [HE.out]
              exact ⟨rfl, below_drewN hbi _⟩
            | false =>
              have HJ2 : Hid (∀ (b : Nat) (y : RuleL), b < j + 1 → t[b]? = some y → k ≠ b → begB y.2 x.2 = false) := Lib.hid fun b y' hb hy' hne => by
                by_cases hbj : b = j
                · subst hbj
                  rw [hy] at hy'
                  rw [← Option.some.inj hy']
                  exact hbb
                · exact HJ.out b y' (by omega) hy' hne
              clear hy hkj hbb
              go_wp2
              go_quiet ((go_at_call 33; exact Calls.quiet_of_same (HBg.out _)))
              go_wp2
              go_roundw
              case rel => exact ⟨j + 1, by omega, by go_num, HJ2, below_drewN hbi _⟩
              case measure => simp [intOf]; omega
        · obtain rfl : j = n := by omega
          have HP2 : Hid (∀ (a b : Nat) (x y : RuleL), a < k + 1 → t[a]? = some x → t[b]? = some y → a ≠ b → begB y.2 x.2 = false) := Lib.hid fun a b x' y' ha hx' hy' hne => by
            by_cases hak : a = k
            · subst hak
              have h1 := HX.out
              rw [hx'] at h1
              rw [Option.some.inj h1]
              exact HJ.out b y' (by have := (List.getElem?_eq_some_iff.1 hy').1; have := HL.out; omega) hy' hne
            · exact HP.out a b x' y' (by omega) hx' hy' hne
          go_wp2
          go_roundw
          case rel => exact ⟨k + 1, by omega, by go_num, HP2, hbi⟩
          case measure => simp [intOf]; omega
    · obtain rfl : k = n := by omega
      have HE : Hid (validL t = R) := Lib.hid (by
        rw [← HR.out]
        unfold revB
        rw [free_to t [] (fun i k' x y hi hk' hne => HP.out i k' x y (by have := (List.getElem?_eq_some_iff.1 hi).1; have := HL.out; omega) hi (by simpa using hk') (by simpa using hne)), Bool.true_and])
      have HV2 := Lib.hid (HV.out _ (HT.out.up hb))
      rw [HE.out] at HV2
      go_wp2_with fail
      refine HV2.out.mono ?_
      rintro e w1 ⟨rfl, k1⟩
      go_wp2
      go_ret
      exact ⟨rfl, below_next hb k1⟩
end

end Go.Proofs.YtomkipddbmnipaaDoor

namespace Go.Proofs.YtomkipddbmnipaaDoor
open Go.RowKit

theorem hasPrefix_any (s p : List UInt8) (w : World) :
    Calls Tryd.prog 32 #[.string (str s), .string (str p)] w fun e w' => e = .returned (.bool (begB s p)) ∧ w' = w := by
  have h1 := Any.strings_HasPrefix hasLays (str s) (str p) w
  have h2 : Calls Tryd.prog 32 #[.string (str s), .string (str p)] w _ := h1
  refine h2.mono ?_
  rintro e w' ⟨rfl, rfl⟩
  have es : (str s).data.toList = s := by simp [str]
  have ep : (str p).data.toList = p := by simp [str]
  rw [es, ep, has_beg]
  exact ⟨rfl, rfl⟩

set_option maxRecDepth 20000 in
set_option maxHeartbeats 6400000 in
theorem prRev7_any (A : Option Addr) (n c : Nat) (t : List RuleL) (w : World) (hS : Ready7 w) (h : Table w A n c t) :
    Calls Tryd.prog 15 #[.slice A n c] w fun e w' => e = .returned (.bool (revB t)) ∧ Below w.heap.size w w' := by
  have HL := Lib.hid h.arr.len
  have hn := h.few
  have HSh := Lib.hid h.short
  have HV := Lib.hid (prValid7_any A n c t w hS h)
  obtain ⟨R, hR⟩ : ∃ R, revB t = R := ⟨_, rfl⟩
  rw [hR]
  have HR := Lib.hid hR
  obtain ⟨v, hv⟩ : ∃ v, validL t = v := ⟨_, rfl⟩
  rw [hv] at HV
  have HVv := Lib.hid hv
  clear hR hv hS
  cases v with
  | false =>
    have HE : Hid (R = false) := Lib.hid (by rw [← HR.out]; unfold revB; rw [HVv.out, Bool.and_false])
    go_enter Tryd.func15, Tryd.ntmps15
    go_wp2_with fail
    refine HV.out.mono ?_
    rintro e w1 ⟨rfl, k1⟩
    go_wp2
    go_ret
    rw [HE.out]
    exact ⟨rfl, k1⟩
  | true =>
    go_enter Tryd.func15, Tryd.ntmps15
    go_wp2_with fail
    refine HV.out.mono ?_
    rintro e w1 ⟨rfl, k1⟩
    go_wp2
    go_loopw [12] (fun i wr => ∃ k : Nat, k ≤ n ∧ i = .int .i64 (k : Int) ∧ Hid (∀ (a b : Nat) (x y : RuleL), a < k → t[a]? = some x → t[b]? = some y → a ≠ b → begB y.2 x.2 = false) ∧ Below w.heap.size w wr) (fun i _ => n - (intOf i).toNat)
    case atStart => exact ⟨0, by omega, rfl, Lib.hid (fun a b x y ha => absurd ha (by omega)), k1⟩
    case round =>
      obtain ⟨k, hk, rfl, HP, hb⟩ := hrel
      by_cases hlt : k < n
      · have t1 : decide ((k : Int) < (n : Int)) = true := by simp; omega
        have kz : (k : Int) < (n : Int) := by omega
        obtain ⟨b0, o0, rfl, hB0, hc0⟩ := h.cells (by omega)
        obtain ⟨x, hx⟩ : ∃ a, t[k]? = some a := ⟨_, List.getElem?_eq_getElem (by have := HL.out; omega)⟩
        have d0 := (hb.cell (p := ⟨b0, o0 + k * 2, none⟩) hB0).trans (hc0 k x hx).1
        have d1 := (hb.cell (p := ⟨b0, o0 + k * 2 + 1, none⟩) hB0).trans (hc0 k x hx).2
        have Hc0 := Lib.hid hc0
        have HX := Lib.hid hx
        obtain ⟨wo, hwo⟩ : ∃ wo, wo = wr := ⟨_, rfl⟩
        subst hwo
        obtain ⟨wa, hwa⟩ : ∃ wa, wo.alloc (.cells #[.string (str x.1), .string (str x.2)] 41) = wa := ⟨_, rfl⟩
        have hba : Below w.heap.size w wa := by rw [← hwa]; exact hb.alloc hb.size _
        have hsa : wa.heap.size = wo.heap.size + 1 := by rw [← hwa]; simp
        have a1 : wa.cell? ⟨wo.heap.size, 1, none⟩ = some (.string (str x.2)) := by rw [← hwa]; simp
        clear hc0 hx
        go_wp2
        go_loopw [19] (fun i wi => ∃ j : Nat, j ≤ n ∧ i = .int .i64 (j : Int) ∧ Hid (∀ (b : Nat) (y : RuleL), b < j → t[b]? = some y → k ≠ b → begB y.2 x.2 = false) ∧ Below wa.heap.size wa wi) (fun i _ => n - (intOf i).toNat)
        case atStart => exact ⟨0, by omega, rfl, Lib.hid (fun b y hb => absurd hb (by omega)), Below.refl _ _⟩
        case round =>
          clear d0 d1
          obtain ⟨j, hj, rfl, HJ, hbi⟩ := hrel
          have hbw : Below w.heap.size w wr := below_next hba hbi
          by_cases hjl : j < n
          · have t2 : decide ((j : Int) < (n : Int)) = true := by simp; omega
            have jz : (j : Int) < (n : Int) := by omega
            obtain ⟨y, hy⟩ : ∃ a, t[j]? = some a := ⟨_, List.getElem?_eq_getElem (by have := HL.out; omega)⟩
            have d0 := (hbw.cell (p := ⟨b0, o0 + j * 2, none⟩) hB0).trans (Hc0.out j y hy).1
            have d1 := (hbw.cell (p := ⟨b0, o0 + j * 2 + 1, none⟩) hB0).trans (Hc0.out j y hy).2
            have hwl : wo.heap.size < wr.heap.size := by have := hbi.size; omega
            have a2 : wr.cell? ⟨wo.heap.size, 1, none⟩ = some (.string (str x.2)) := (hbi.cell (p := ⟨wo.heap.size, 1, none⟩) (by rw [hsa]; exact Nat.lt_succ_self _)).trans a1
            have e2 : (wr.alloc (.cells #[.string (str y.1), .string (str y.2)] 41)).cell? ⟨wo.heap.size, 1, none⟩ = some (.string (str x.2)) := Lib.cell?_alloc_some _ a2
            have hbj : Below wa.heap.size wa (wr.alloc (.cells #[.string (str y.1), .string (str y.2)] 41)) := hbi.alloc hbi.size _
            by_cases hkj : k = j
            · have t3 : ((k : Int) != (j : Int)) = false := by rw [hkj]; simp
              have HJ2 : Hid (∀ (b : Nat) (y : RuleL), b < j + 1 → t[b]? = some y → k ≠ b → begB y.2 x.2 = false) := Lib.hid fun b y hb hy hne => HJ.out b y (by omega) hy hne
              clear hy hkj hwa
              go_wp2
              go_roundw
              case rel => exact ⟨j + 1, by omega, by go_num, HJ2, hbj⟩
              case measure => simp [intOf]; omega
            · have t3 : ((k : Int) != (j : Int)) = true := by simp; omega
              have HBg := Lib.hid fun W => hasPrefix_any y.2 x.2 W
              obtain ⟨bb, hbb⟩ : ∃ b, begB y.2 x.2 = b := ⟨_, rfl⟩
              rw [hbb] at HBg
              cases bb with
              | true =>
                have HE : Hid (R = false) := Lib.hid (by rw [← HR.out]; exact rev_no HX.out hy hkj hbb)
                have hbw2 := below_next hba hbj
                clear hy hkj hbb hwa
                go_wp2_with fail
                refine (HBg.out _).mono ?_
                rintro e w3 ⟨rfl, rfl⟩
                go_wp2
                go_ret
                rw [HE.out]
                exact ⟨rfl, hbw2⟩
              | false =>
                have HJ2 : Hid (∀ (b : Nat) (y : RuleL), b < j + 1 → t[b]? = some y → k ≠ b → begB y.2 x.2 = false) := Lib.hid fun b y' hb hy' hne => by
                  by_cases hbj : b = j
                  · subst hbj
                    rw [hy] at hy'
                    rw [← Option.some.inj hy']
                    exact hbb
                  · exact HJ.out b y' (by omega) hy' hne
                clear hy hkj hbb hwa
                go_wp2_with fail
                refine (HBg.out _).mono ?_
                rintro e w3 ⟨rfl, rfl⟩
                go_wp2
                go_roundw
                case rel => exact ⟨j + 1, by omega, by go_num, HJ2, hbj⟩
                case measure => simp [intOf]; omega
          · obtain rfl : j = n := by omega
            have t2 : decide ((j : Int) < (j : Int)) = false := by simp
            have HP2 : Hid (∀ (a b : Nat) (x y : RuleL), a < k + 1 → t[a]? = some x → t[b]? = some y → a ≠ b → begB y.2 x.2 = false) := Lib.hid fun a b x' y' ha hx' hy' hne => by
              by_cases hak : a = k
              · subst hak
                have h1 := HX.out
                rw [hx'] at h1
                rw [Option.some.inj h1]
                exact HJ.out b y' (by have := (List.getElem?_eq_some_iff.1 hy').1; have := HL.out; omega) hy' hne
              · exact HP.out a b x' y' (by omega) hx' hy' hne
            clear hwa
            go_wp2
            go_roundw
            case rel => exact ⟨k + 1, by omega, by go_num, HP2, hbw⟩
            case measure => simp [intOf]; omega
      · obtain rfl : k = n := by omega
        have t1 : decide ((k : Int) < (k : Int)) = false := by simp
        have HE : Hid (R = true) := Lib.hid (by
          rw [← HR.out]
          unfold revB
          rw [free_to t [] (fun i k' x y hi hk' hne => HP.out i k' x y (by have := (List.getElem?_eq_some_iff.1 hi).1; have := HL.out; omega) hi (by simpa using hk') (by simpa using hne)), Bool.true_and]
          exact HVv.out)
        go_wp2
        go_ret
        rw [HE.out]
        exact ⟨rfl, hb⟩

end Go.Proofs.YtomkipddbmnipaaDoor
