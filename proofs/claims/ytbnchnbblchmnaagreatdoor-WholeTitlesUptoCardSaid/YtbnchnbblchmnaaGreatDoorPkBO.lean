/-
  The program's encoded, beginsWithLetter, isText, isAfter.
  The program's Valid: a set of the Texts seen, in a map of the call's own.
  The program's Key, Compare, Primary.
-/
import Derived.Test.YtbnchnbblchmnaaGreatDoorPkBM
import Derived.Maps.OwnSet
import Derived.Test.YtbnchnbblchmnaaGreatDoorPkBN
namespace Go.Proofs.YtbnchnbblchmnaaGreatDoor
open Go.RowKit

theorem dec_nil_iff {s : List UInt8} {l : List Nat} (h : decR s = some l) : l = [] ↔ s = [] := by
  obtain ⟨he, _⟩ := enc_dec h
  constructor
  · intro e; rw [← he, e]; rfl
  · intro e
    subst e
    have : decR [] = some [] := by kernel_rfl
    rw [this] at h
    exact (Option.some.inj h).symm
theorem cut_one {s : List UInt8} {c : Nat} {l : List Nat} (h : decR s = some (c :: l)) : cutR s 1 = encL [c] ∧ decR (encL [c]) = some [c] := by
  refine ⟨by rw [cutR_some h (by omega)]; rfl, ?_⟩
  exact dec_enc _ fun x hx => (enc_dec h).2 x (by rw [List.mem_singleton.1 hx]; simp)
theorem fold_nd {s : List UInt8} {l : List Nat} (hd : decR s = some l) (h : nFold s = s) : nD s = s := by
  have h1 := nL_nFold s
  rw [h] at h1
  have h2 : Dec (nL s) := by rw [h1]; exact nFL_dec _
  unfold nD
  rw [dc_dec h2]
  have hn : nL s = l := by unfold nL; rw [hd]; rfl
  rw [hn]
  exact (enc_dec hd).1

set_option maxRecDepth 20000 in
set_option maxHeartbeats 3200000 in
theorem prEncoded_any (s : List UInt8) (w : World) (hS : Spans w) (hs : s.length ≤ 5000) :
    Calls Tryz.prog 36 #[.string (str s)] w fun e w' => e = .returned (.bool (decR s).isSome) ∧ Below w.heap.size w w' := by
  have HC := Lib.hid (prCount_any s w hS (by omega))
  by_cases h0 : s = []
  · subst h0
    have z0 : ((str ([] : List UInt8)).toList == []) = true := by rw [str_toList]; rfl
    have z1 : (str ([] : List UInt8)).toList = [] := str_toList []
    have e0 : (decR ([] : List UInt8)).isSome = true := by kernel_rfl
    rw [e0]
    clear hS
    go_enter Tryz.func36, Tryz.ntmps36
    go_wp2
    go_ret
    exact ⟨rfl, Below.refl _ _⟩
  · have z0 := str_beq_nil h0
    have z1 : ¬ (str s).toList = [] := by rw [str_toList]; exact h0
    cases hd : decR s with
    | none =>
      rw [countR_none hd] at HC
      clear hS hd
      go_enter Tryz.func36, Tryz.ntmps36
      go_wp2_with fail
      refine HC.out.mono ?_
      rintro e w1 ⟨rfl, k1⟩
      go_wp2
      go_ret
      exact ⟨rfl, k1⟩
    | some l =>
      rw [countR_some hd] at HC
      have hl : 0 < l.length := List.length_pos_iff.2 fun e => h0 ((dec_nil_iff hd).1 e)
      obtain ⟨n, hn⟩ : ∃ n, l.length = n := ⟨_, rfl⟩
      rw [hn] at HC hl
      have t1 : decide ((n : Int) > 0) = true := by simp; omega
      have t1' : decide ((0 : Int) < (n : Int)) = true := by simp; omega
      have t1n : decide (0 < n) = true := by simpa using hl
      clear hS hd hn
      go_enter Tryz.func36, Tryz.ntmps36
      go_wp2_with fail
      refine HC.out.mono ?_
      rintro e w1 ⟨rfl, k1⟩
      go_wp2
      go_ret
      exact ⟨rfl, k1⟩

set_option maxRecDepth 20000 in
set_option maxHeartbeats 3200000 in
theorem prBegins_any (s : List UInt8) (c : Nat) (l : List Nat) (w : World) (hS : Spans w) (hd : decR s = some (c :: l)) :
    Calls Tryz.prog 108 #[.string (str s)] w fun e w' => e = .returned (.bool (Nat.beq (kN c) 1)) ∧ Below w.heap.size w w' := by
  have HC := Lib.hid (prCut_any s 1 w hS (by omega))
  obtain ⟨h1, h2⟩ := cut_one hd
  rw [h1] at HC
  have hl := encL_len [c]
  have HD := Lib.hid (fun (W : World) (hW : Below w.heap.size w W) => prDecode_any (encL [c]) W (hS.below hW) (by simp at hl; omega))
  rw [h2] at HD
  have HCl := Lib.hid (fun (W : World) (hW : Below w.heap.size w W) => prClass_any (c : Int) W (hS.below hW))
  have hk : clsR (c : Int) = (scN c, kN c) := by rw [clsF_eq]; rfl
  rw [hk] at HCl
  unfold two at HCl
  obtain ⟨k, hk2⟩ : ∃ k, kN c = k := ⟨_, rfl⟩
  obtain ⟨sc, hsc⟩ : ∃ sc, scN c = sc := ⟨_, rfl⟩
  obtain ⟨e1, he1⟩ : ∃ e1, encL [c] = e1 := ⟨_, rfl⟩
  simp only [hk2, hsc] at HCl ⊢
  rw [he1] at HC HD
  have HB : Hid (Nat.beq k 1 = ((k : Int) == 1)) := Lib.hid (by
    by_cases h : k = 1
    · rw [beq_of h, eqb_true (by omega)]
    · rw [beq_false h, eqb_false (by omega)])
  rw [HB.out]
  clear hk hk2 hsc he1 h1 h2 hl hS hd
  go_enter Tryz.func108, Tryz.ntmps108
  go_wp2_with fail
  refine HC.out.mono ?_
  rintro e w1 ⟨rfl, k1⟩
  go_wp2_with fail
  refine (HD.out _ k1).mono ?_
  rintro e w2 ⟨hde, k2⟩
  obtain ⟨A3, n3, c3, b', rfl, hcase⟩ := hde.form
  rcases hcase with ⟨rfl, l', hl', hn3, hA3, -⟩ | ⟨rfl, h', -⟩
  case inr => cases h'
  obtain rfl := Option.some.inj hl'
  obtain rfl : n3 = 1 := hn3
  obtain ⟨a3, q3, rfl, hA3b, hc3⟩ := hA3.some_ (by decide)
  have d2 : w2.cell? ⟨a3, q3, none⟩ = some (.int .i64 (c : Int)) := hc3 0 c rfl
  have hb2 := below_next k1 k2
  clear hde hl' hc3 hA3
  go_wp2_with fail
  refine (HCl.out _ hb2).mono ?_
  rintro e w3 ⟨rfl, k3⟩
  go_wp2
  go_ret
  exact ⟨rfl, below_next hb2 k3⟩

set_option maxRecDepth 20000 in
set_option maxHeartbeats 3200000 in
theorem prIsAfter_any (s : List UInt8) (w : World) (hS : Spans w) (hs : s.length ≤ 5000) :
    Calls Tryz.prog 67 #[.string (str s)] w fun e w' => e = .returned (.bool (afterB s)) ∧ Below w.heap.size w w' := by
  have HC := Lib.hid (prCount_any s w hS (by omega))
  have h2 : ∀ b : Bool, (countR s = 1 → (∃ c, decR s = some [c] ∧ b = (Nat.beq (kN c) 1 && nIs6 s))) → (countR s ≠ 1 → b = false) → afterB s = b := by
    intro b h1 h0
    unfold afterB
    cases hd : decR s with
    | none => rw [h0 (by rw [countR_none hd]; decide)]
    | some l =>
      by_cases h : l.length = 1
      · obtain ⟨c, hc, e⟩ := h1 (by rw [countR_some hd]; exact h)
        rw [hd] at hc
        obtain rfl := Option.some.inj hc
        rw [e]
        rfl
      · rw [h0 (by rw [countR_some hd]; exact h)]
        simp only
        rw [beq_false h]
        rfl
  by_cases h1 : countR s = 1
  · obtain ⟨c, hd⟩ : ∃ c, decR s = some [c] := by
      cases hd : decR s with
      | none => rw [countR_none hd] at h1; cases h1
      | some l =>
        rw [countR_some hd] at h1
        obtain ⟨c, rfl⟩ := List.length_eq_one_iff.1 h1
        exact ⟨c, rfl⟩
    have HE := Lib.hid (h2 (Nat.beq (kN c) 1 && nIs6 s) (fun _ => ⟨c, hd, rfl⟩) (fun h => absurd h1 h))
    rw [h1] at HC
    have HBg := Lib.hid (fun (W : World) (hW : Below w.heap.size w W) => prBegins_any s c [] W (hS.below hW) hd)
    have HIs := Lib.hid (fun (W : World) (hW : Below w.heap.size w W) => prIs6_s s W (hS.below hW) hs)
    rw [HE.out]
    obtain ⟨q, hq⟩ : ∃ q, nIs6 s = q := ⟨_, rfl⟩
    rw [hq] at HIs ⊢
    cases hb : Nat.beq (kN c) 1 with
    | false =>
      rw [hb] at HBg
      clear h2 hS hd HE hb hq
      go_enter Tryz.func67, Tryz.ntmps67
      go_wp2_with fail
      refine HC.out.mono ?_
      rintro e w1 ⟨rfl, k1⟩
      go_wp2_with fail
      refine (HBg.out _ k1).mono ?_
      rintro e w2 ⟨rfl, k2⟩
      go_wp2
      go_ret
      exact ⟨rfl, below_next k1 k2⟩
    | true =>
      rw [hb] at HBg
      clear h2 hS hd HE hb hq
      go_enter Tryz.func67, Tryz.ntmps67
      go_wp2_with fail
      refine HC.out.mono ?_
      rintro e w1 ⟨rfl, k1⟩
      go_wp2_with fail
      refine (HBg.out _ k1).mono ?_
      rintro e w2 ⟨rfl, k2⟩
      have hb2 := below_next k1 k2
      go_wp2_with fail
      refine (HIs.out _ hb2).mono ?_
      rintro e w3 ⟨rfl, k3⟩
      go_wp2
      go_ret
      exact ⟨rfl, below_next hb2 k3⟩
  · have HE := Lib.hid (h2 false (fun h => absurd h h1) (fun _ => rfl))
    rw [HE.out]
    obtain ⟨m, hm⟩ : ∃ m, countR s = m := ⟨_, rfl⟩
    rw [hm] at HC h1
    have t1 : ((m : Int) == 1) = false := eqb_false (by omega)
    clear h2 hS HE hm
    go_enter Tryz.func67, Tryz.ntmps67
    go_wp2_with fail
    refine HC.out.mono ?_
    rintro e w1 ⟨rfl, k1⟩
    go_wp2
    go_ret
    exact ⟨rfl, k1⟩

set_option maxRecDepth 20000 in
set_option maxHeartbeats 3200000 in
theorem prIsText_any (s : List UInt8) (w : World) (hS : Spans w) (hs : s.length ≤ 5000) :
    Calls Tryz.prog 66 #[.string (str s)] w fun e w' => e = .returned (.bool (textB s)) ∧ Below w.heap.size w w' := by
  have HC := Lib.hid (prCount_any s w hS (by omega))
  by_cases h1 : 1 ≤ countR s
  · obtain ⟨c, l, hd⟩ : ∃ c l, decR s = some (c :: l) := by
      cases hd : decR s with
      | none => rw [countR_none hd] at h1; omega
      | some l =>
        rw [countR_some hd] at h1
        cases l with
        | nil => simp at h1
        | cons c l => exact ⟨c, l, rfl⟩
    have hc : countR s = (c :: l).length := countR_some hd
    by_cases h4 : countR s ≤ 4
    · have HFo := Lib.hid (fun (W : World) (hW : Below w.heap.size w W) => prFold_s s W (hS.below hW) hs)
      have HBg := Lib.hid (fun (W : World) (hW : Below w.heap.size w W) => prBegins_any s c l W (hS.below hW) hd)
      have HQ := str_beq (nFold s) s
      have HE : Hid (textB s = (decide (nFold s = s) && Nat.beq (kN c) 1)) := Lib.hid (by
        unfold textB
        rw [hd]
        simp only
        rw [show Nat.ble (c :: l).length 4 = true from ble_of (by omega)]
        by_cases hf : nFold s = s
        · rw [decide_eq_true hf, decide_eq_true (fold_nd hd hf)]
          show (true && Nat.beq (kN c) 1 && true && true) = _
          simp
        · rw [decide_eq_false hf]
          simp)
      rw [HE.out]
      obtain ⟨F, hF⟩ : ∃ F, nFold s = F := ⟨_, rfl⟩
      rw [hF] at HFo HQ ⊢
      obtain ⟨q, hq⟩ : ∃ q, decide (F = s) = q := ⟨_, rfl⟩
      rw [hq] at HQ ⊢
      obtain ⟨bl, hbl⟩ : ∃ bl, Nat.beq (kN c) 1 = bl := ⟨_, rfl⟩
      rw [hbl] at HBg ⊢
      obtain ⟨m, hm⟩ : ∃ m, countR s = m := ⟨_, rfl⟩
      rw [hm] at HC h1 h4
      have t1 : decide ((1 : Int) ≤ (m : Int)) = true := by simp; omega
      have t1n : decide (1 ≤ m) = true := by simpa using h1
      have t4 : decide ((m : Int) ≤ 4) = true := by simp; omega
      have t4n : decide (m ≤ 4) = true := by simpa using h4
      clear hS hd hc HE hF hq hbl hm
      cases q with
      | false =>
        go_enter Tryz.func66, Tryz.ntmps66
        go_wp2_with fail
        refine HC.out.mono ?_
        rintro e w1 ⟨rfl, k1⟩
        go_wp2_with fail
        refine (HFo.out _ k1).mono ?_
        rintro e w2 ⟨rfl, k2⟩
        go_wp2
        go_ret
        exact ⟨rfl, below_next k1 k2⟩
      | true =>
        go_enter Tryz.func66, Tryz.ntmps66
        go_wp2_with fail
        refine HC.out.mono ?_
        rintro e w1 ⟨rfl, k1⟩
        go_wp2_with fail
        refine (HFo.out _ k1).mono ?_
        rintro e w2 ⟨rfl, k2⟩
        have hb2 := below_next k1 k2
        go_wp2_with fail
        refine (HBg.out _ hb2).mono ?_
        rintro e w3 ⟨rfl, k3⟩
        go_wp2
        go_ret
        exact ⟨rfl, below_next hb2 k3⟩
    · have HE : Hid (textB s = false) := Lib.hid (by
        unfold textB
        rw [hd]
        simp only
        cases hb : Nat.ble (c :: l).length 4 with
        | false => rfl
        | true => rw [Nat.ble_eq] at hb; omega)
      rw [HE.out]
      obtain ⟨m, hm⟩ : ∃ m, countR s = m := ⟨_, rfl⟩
      rw [hm] at HC h1 h4
      have t1 : decide ((1 : Int) ≤ (m : Int)) = true := by simp; omega
      have t1n : decide (1 ≤ m) = true := by simpa using h1
      have t4 : decide ((m : Int) ≤ 4) = false := by simp; omega
      have t4n : decide (m ≤ 4) = false := by simpa using h4
      clear hS hd hc HE hm
      go_enter Tryz.func66, Tryz.ntmps66
      go_wp2_with fail
      refine HC.out.mono ?_
      rintro e w1 ⟨rfl, k1⟩
      go_wp2
      go_ret
      exact ⟨rfl, k1⟩
  · have h0 : countR s = 0 := by omega
    have HE : Hid (textB s = false) := Lib.hid (by
      unfold textB
      cases hd : decR s with
      | none => rfl
      | some l =>
        rw [countR_some hd] at h0
        obtain rfl := List.length_eq_zero_iff.1 h0
        rfl)
    rw [HE.out]
    rw [h0] at HC
    clear hS HE h0 h1
    go_enter Tryz.func66, Tryz.ntmps66
    go_wp2_with fail
    refine HC.out.mono ?_
    rintro e w1 ⟨rfl, k1⟩
    go_wp2
    go_ret
    exact ⟨rfl, k1⟩

end Go.Proofs.YtbnchnbblchmnaaGreatDoor

namespace Go.Proofs.YtbnchnbblchmnaaGreatDoor
open Go.RowKit Go.Maps

theorem distB_snoc (x : RuleL) : ∀ l : List RuleL, distB (l ++ [x]) = (distB l && l.all fun y => decide (y.1 ≠ x.1))
  | [] => rfl
  | z :: l => by
    have ih := distB_snoc x l
    have e : decide (x.1 ≠ z.1) = decide (z.1 ≠ x.1) := decide_eq_decide.2 ⟨Ne.symm, Ne.symm⟩
    rw [List.cons_append, distB, distB, ih, List.all_append, List.all_cons, List.all_nil, List.all_cons, e]
    cases l.all (fun y => decide (y.1 ≠ z.1)) <;> cases decide (z.1 ≠ x.1) <;> cases distB l <;> rfl
theorem preT_snoc (l : List RuleL) (x : RuleL) : preT (l ++ [x]) = (preT l && (textB x.1 && afterB x.2 && l.all fun y => decide (y.1 ≠ x.1))) := by
  unfold preT
  rw [distB_snoc, List.all_append, show [x].all letB = letB x by simp]
  unfold letB
  cases l.all (fun x => textB x.1 && afterB x.2) <;> cases textB x.1 <;> cases afterB x.2 <;> cases distB l <;> cases l.all (fun y => decide (y.1 ≠ x.1)) <;> rfl
theorem preT_take {t : List RuleL} (h : preT t = true) : ∀ k, preT (t.take (t.length - k)) = true
  | 0 => by rw [Nat.sub_zero, List.take_of_length_le (Nat.le_refl _)]; exact h
  | k + 1 => by
    have ih := preT_take h k
    by_cases hk : k < t.length
    · obtain ⟨m, hm⟩ : ∃ m, t.length - k = m + 1 := ⟨t.length - k - 1, by omega⟩
      have hx : t[m]? = some t[m] := List.getElem?_eq_getElem (by omega)
      rw [hm, take_next hx, preT_snoc, Bool.and_eq_true] at ih
      rw [show t.length - (k + 1) = m by omega]
      exact ih.1
    · rw [show t.length - (k + 1) = t.length - k by omega]
      exact ih
theorem validT_no {t : List RuleL} {k : Nat} (h : preT (t.take k) = false) : validT t = false := by
  cases hv : validT t with
  | false => rfl
  | true =>
    unfold validT at hv
    rw [Bool.and_eq_true] at hv
    have h1 := preT_take hv.1 (t.length - k)
    by_cases hk : k ≤ t.length
    · rw [show t.length - (t.length - k) = k by omega, h] at h1
      cases h1
    · rw [List.take_of_length_le (by omega), hv.1] at h
      cases h

/-- Which Texts have been seen. -/
def Seen (D : DataW Unit) (l : List RuleL) : Prop := IsMap D ∧ ∀ p : List UInt8, D.atKey (.string p) (.lit (.bool false)) = .lit (.bool (!(l.all fun y => decide (y.1 ≠ p))))
theorem seen_nil : Seen (.map []) [] := ⟨isMap_empty, fun _ => rfl⟩
theorem seen_next {D : DataW Unit} {l : List RuleL} (h : Seen D l) (x : RuleL) : Seen (D.put (.string x.1) (.lit (.bool true))) (l ++ [x]) := by
  refine ⟨h.1.put _ _, fun p => ?_⟩
  by_cases hp : x.1 = p
  · subst hp
    rw [atKey_put_same (k := .string x.1) h.1 trivial]
    simp
  · rw [atKey_put_other (fun e => hp (by injection e with e; exact e.symm)), h.2 p]
    rw [List.all_append]
    simp [hp]
theorem plain_bool_inv {P : Program} {e : TypeId} (he : P.underlying e = some .bool) {v : Value} {b : Bool} {ps : List MemPlace} (h : plainElem (H := Unit) P e v = some (.lit (.bool b), ps)) : v = .bool b := by
  unfold plainElem at h
  rw [he] at h
  cases v <;> simp at h
  rw [h.1]
/-- The look-up of a side, in whatever world the map stands. -/
theorem seen_look {D : DataW Unit} {l : List RuleL} (h : Seen D l) {b n : Nat} {W : World} (hown : W.ownsMap Tryz.prog 9 (plainElem Tryz.prog 4) b n D) (p : List UInt8) (hp : p.length ≤ 1000000) :
    (Instr.lookup 49 (.map (some b)) (.string (str p)) false).run Tryz.prog W = .ok (.bool (!(l.all fun y => decide (y.1 ≠ p)))) W := by
  have hkey : keyOf Tryz.prog 9 (.string (str p)) = some (.string (str p).data.toList) := WideMaps.keyOf_string_mk (P := Tryz.prog) Tryz.underlying9 (by rw [str_size]; unfold maxLen; omega)
  have ep : (str p).data.toList = p := by simp [str]
  rw [ep] at hkey
  obtain ⟨v, ps, hrun, hv⟩ := hown.lookup (string_keyed Tryz.underlying9) Tryz.underlying49 (Tryz.zeroValue4 W) (zd := .lit (.bool false)) (zp := []) (plainElem_bool Tryz.underlying4 false) hkey
  rw [h.2 p] at hv
  rw [hrun, plain_bool_inv Tryz.underlying4 hv]

theorem map_kept {w w' : World} {D : DataW Unit} {b n : Nat} (h : w.ownsMap Tryz.prog 9 (plainElem Tryz.prog 4) b n D) (hb : Below w.heap.size w w') : w'.ownsMap Tryz.prog 9 (plainElem Tryz.prog 4) b n D := h.kept (grown_of_below none hb) (by simp)

set_option maxRecDepth 20000 in
set_option maxHeartbeats 6400000 in
theorem prValid_any (A : Option Addr) (n c : Nat) (t : List RuleL) (w : World) (hS : Spans w) (h : SArr 2 rv w w.heap.size (.slice A n c) t) (hn : n ≤ 1000) (hsh : ∀ x ∈ t, x.1.length ≤ 1000 ∧ x.2.length ≤ 1000) :
    Calls Tryz.prog 35 #[.slice A n c] w fun e w' => e = .returned (.bool (validT t)) ∧ Below w.heap.size w w' := by
  have HL := Lib.hid h.len
  have HSh := Lib.hid hsh
  have HRdy := Lib.hid hS
  obtain ⟨R, hR⟩ : ∃ R, validT t = R := ⟨_, rfl⟩
  rw [hR]
  have HR := Lib.hid hR
  clear hR hS hsh
  by_cases h2 : 40 < n
  · have t2 : decide (40 < (n : Int)) = true := by simp; omega
    have t2n : decide (40 < n) = true := by simpa using h2
    have HE : Hid (R = false) := Lib.hid (by
      rw [← HR.out]
      unfold validT
      rw [HL.out, decide_eq_false (show ¬ n ≤ 40 by omega)]
      simp)
    go_enter Tryz.func35, Tryz.ntmps35
    go_wp2
    go_ret
    rw [HE.out]
    exact ⟨rfl, Below.refl _ _⟩
  have t2 : decide (40 < (n : Int)) = false := by simp; omega
  have t2n : decide (40 < n) = false := by simpa using h2
  have hmm := @run_makeMap Tryz.prog
  go_enter Tryz.func35, Tryz.ntmps35
  go_wp2
  go_loopw [12] (fun i wr => ∃ (k : Nat) (D : DataW Unit), k ≤ n ∧ i = .int .i64 (k : Int) ∧ Hid (preT (t.take k) = true) ∧ Hid (Seen D (t.take k)) ∧ Hid (wr.ownsMap Tryz.prog 9 (plainElem Tryz.prog 4) w.heap.size k D) ∧ Below w.heap.size w wr) (fun i _ => n - (intOf i).toNat)
  case atStart => exact ⟨0, .map [], by omega, rfl, Lib.hid rfl, Lib.hid seen_nil, Lib.hid (World.ownsMap_made _ _ _ _), (Below.refl _ _).alloc (Nat.le_refl _) _⟩
  case round =>
    obtain ⟨k, D, hk, rfl, HP, HD, HO, hb⟩ := hrel
    by_cases hlt : k < n
    · have t3 : decide ((k : Int) < (n : Int)) = true := by simp; omega
      have kz : (k : Int) < (n : Int) := by omega
      obtain ⟨b0, o0, rfl, hB0, hc0⟩ := lets_cells h (by omega)
      obtain ⟨x, hx⟩ : ∃ a, t[k]? = some a := ⟨_, List.getElem?_eq_getElem (by have := HL.out; omega)⟩
      have hxs := HSh.out x (List.mem_of_getElem? hx)
      have d0 := (hb.cell (p := ⟨b0, o0 + k * 2, none⟩) hB0).trans (hc0 k x hx).1
      have d1 := (hb.cell (p := ⟨b0, o0 + k * 2 + 1, none⟩) hB0).trans (hc0 k x hx).2
      have HTk : Hid (t.take (k + 1) = t.take k ++ [x]) := Lib.hid (take_next hx)
      have HN : Hid (preT (t.take (k + 1)) = (textB x.1 && afterB x.2 && (t.take k).all fun y => decide (y.1 ≠ x.1))) := Lib.hid (by rw [take_next hx, preT_snoc, HP.out]; rfl)
      have hba := (Below.refl wr.heap.size wr).alloc (Nat.le_refl _) (.cells #[.string (str x.1), .string (str x.2)] 105)
      have HP1 := Lib.hid (prIsText_any x.1 _ ((HRdy.out.below hb).below hba) (by omega))
      obtain ⟨s1, hs1⟩ : ∃ z, textB x.1 = z := ⟨_, rfl⟩
      obtain ⟨s2, hs2⟩ : ∃ z, afterB x.2 = z := ⟨_, rfl⟩
      obtain ⟨s3, hs3⟩ : ∃ z, (t.take k).all (fun y => decide (y.1 ≠ x.1)) = z := ⟨_, rfl⟩
      rw [hs1, hs2, hs3] at HN
      rw [hs1] at HP1
      have HS2 := Lib.hid hs2
      have HS3 := Lib.hid hs3
      have HBA := Lib.hid hba
      have hxx : x.1.length ≤ 1000 ∧ x.2.length ≤ 1000 := hxs
      clear hc0 hx hs1 hs2 hs3 hba hxs
      go_wp2_with fail
      refine HP1.out.mono ?_
      rintro e w1 ⟨rfl, k1⟩
      have b1 : Below wr.heap.size wr w1 := below_next HBA.out k1
      have bw1 : Below w.heap.size w w1 := below_next hb b1
      have c0 : w1.cell? ⟨wr.heap.size, 0, none⟩ = some (.string (str x.1)) := (k1.cell (p := ⟨wr.heap.size, 0, none⟩) (by simp)).trans (by simp)
      have c1 : w1.cell? ⟨wr.heap.size, 1, none⟩ = some (.string (str x.2)) := (k1.cell (p := ⟨wr.heap.size, 1, none⟩) (by simp)).trans (by simp)
      have hs1 : wr.heap.size < w1.heap.size := by have := k1.size; simp at this; omega
      have HO1 := Lib.hid (map_kept HO.out b1)
      clear k1 d0 d1
      cases s1 with
      | false =>
        have HE : Hid (R = false) := Lib.hid (by rw [← HR.out]; exact validT_no (k := k + 1) (by rw [HN.out]; rfl))
        go_wp2
        go_ret
        rw [HE.out]
        exact ⟨rfl, bw1⟩
      | true =>
        have HP2 := Lib.hid (prIsAfter_any x.2 w1 (HRdy.out.below bw1) (by omega))
        rw [HS2.out] at HP2
        go_wp2_with fail
        refine HP2.out.mono ?_
        rintro e w2 ⟨rfl, k2⟩
        have bw2 : Below w.heap.size w w2 := below_next bw1 k2
        have c2 : w2.cell? ⟨wr.heap.size, 0, none⟩ = some (.string (str x.1)) := (k2.cell (p := ⟨wr.heap.size, 0, none⟩) hs1).trans c0
        have hO2 := map_kept HO1.out k2
        have hlook := seen_look HD.out hO2 x.1 (by omega)
        rw [HS3.out] at hlook
        have HO2 := Lib.hid hO2
        clear k2 c0 c1 hO2
        cases s2 with
        | false =>
          have HE : Hid (R = false) := Lib.hid (by rw [← HR.out]; exact validT_no (k := k + 1) (by rw [HN.out]; rfl))
          go_wp2
          go_ret
          rw [HE.out]
          exact ⟨rfl, bw2⟩
        | true =>
          cases s3 with
          | false =>
            have HE : Hid (R = false) := Lib.hid (by rw [← HR.out]; exact validT_no (k := k + 1) (by rw [HN.out]; rfl))
            simp only [Bool.not_false] at hlook
            go_wp2
            go_ret
            rw [HE.out]
            exact ⟨rfl, bw2⟩
          | true =>
            simp only [Bool.not_true] at hlook
            have hkey : keyOf Tryz.prog 9 (.string (str x.1)) = some (.string (str x.1).data.toList) := WideMaps.keyOf_string_mk (P := Tryz.prog) Tryz.underlying9 (by rw [str_size]; unfold maxLen; omega)
            have ep : (str x.1).data.toList = x.1 := by simp [str]
            rw [ep] at hkey
            have hO2 := HO2.out
            have HSN : Hid (Seen (D.put (.string x.1) (.lit (.bool true))) (t.take (k + 1))) := Lib.hid (by rw [HTk.out]; exact seen_next HD.out x)
            have HPN : Hid (preT (t.take (k + 1)) = true) := Lib.hid (by rw [HN.out]; rfl)
            clear ep
            go_wp2_with (first
              | (at_mapUpdate; refine wpList_mapUpdate_own _ rfl _ _ _ 49 rfl 9 4 (string_keyed Tryz.underlying9) Tryz.underlying49 _ w.heap.size k _ rfl hO2 (by unfold maxLen; omega) _ _ _ rfl rfl hkey _ [] (plainElem_bool Tryz.underlying4 true) ?_)
              | go_in)
            intro w3 hown3 hgrow3
            have HO3 := Lib.hid hown3
            have hb3 := bw2.grown hgrow3 bw2.size (fun j hj => by cases hj; exact Nat.le_refl _)
            clear hown3 hgrow3 hO2 hlook hkey
            go_wp2
            go_roundw
            case rel => exact ⟨k + 1, _, by omega, by go_num, HPN, HSN, HO3, hb3⟩
            case measure => simp [intOf]; omega
    · obtain rfl : k = n := by omega
      have t3 : decide ((k : Int) < (k : Int)) = false := by simp
      have HE : Hid (R = true) := Lib.hid (by
        have h5 := HP.out
        rw [List.take_of_length_le (by rw [HL.out]; exact Nat.le_refl _)] at h5
        rw [← HR.out]
        unfold validT
        rw [h5, HL.out, decide_eq_true (show k ≤ 40 by omega)]
        rfl)
      go_wp2
      go_ret
      rw [HE.out]
      exact ⟨rfl, hb⟩

end Go.Proofs.YtbnchnbblchmnaaGreatDoor

namespace Go.Proofs.YtbnchnbblchmnaaGreatDoor
open Go.RowKit

/-- A tailoring that is handed over. -/
structure Tab8 (w : World) (A : Option Addr) (n c : Nat) (t : List RuleL) : Prop where
  arr : SArr 2 rv w w.heap.size (.slice A n c) t
  few : n ≤ 1000
  short : ∀ x ∈ t, x.1.length ≤ 1000 ∧ x.2.length ≤ 1000
theorem Tab8.up {W w : World} {A : Option Addr} {n c : Nat} {t : List RuleL} (h : Tab8 W A n c t) (hb : Below W.heap.size W w) : Tab8 w A n c t := ⟨h.arr.up hb, h.few, h.short⟩
theorem Tab8.nil_ (w : World) : Tab8 w none 0 0 [] := ⟨SArr.nil_ _ _, by omega, by simp⟩
theorem nKey_good {t : List RuleL} {s : List UInt8} (h : goodT t s = true) : nKey t s = keyB t s := if_pos h
theorem nKey_bad {t : List RuleL} {s : List UInt8} (h : goodT t s = false) : nKey t s = [] := if_neg (by rw [h]; exact Bool.false_ne_true)
theorem nPrim_bad {t : List RuleL} {s : List UInt8} (h : goodT t s = false) : nPrim t s = [] := if_neg (by rw [h]; exact Bool.false_ne_true)
theorem good_of {t : List RuleL} {s : List UInt8} (h1 : validT t = true) (h2 : (decR s).isSome = true) : goodT t s = true := by unfold goodT; rw [h1, h2]; rfl
theorem good_no1 {t : List RuleL} {s : List UInt8} (h1 : validT t = false) : goodT t s = false := by unfold goodT; rw [h1, Bool.and_false]
theorem good_no2 {t : List RuleL} {s : List UInt8} (h2 : (decR s).isSome = false) : goodT t s = false := by unfold goodT; rw [h2]; rfl
theorem nCmp_bad {t : List RuleL} {a b : List UInt8} (h : goodT t a = false ∨ goodT t b = false) : nCmp t a b = 0 := by
  refine if_neg fun h2 => ?_
  rcases h with h | h
  · rw [h] at h2; cases h2.1
  · rw [h] at h2; cases h2.2

set_option maxRecDepth 20000 in
set_option maxHeartbeats 6400000 in
theorem prPrimary_any (A : Option Addr) (n c : Nat) (t : List RuleL) (s : List UInt8) (w : World) (hS : Spans w) (h : Tab8 w A n c t) (hs : s.length ≤ 500) :
    Calls Tryz.prog 14 #[.slice A n c, .string (str s)] w fun e w' => ∃ A' n' c', e = .returned (.slice A' n' c') ∧ Arr nv w' w'.heap.size (.slice A' n' c') (nPrim t s) ∧ Below w.heap.size w w' := by
  have HV := Lib.hid (prValid_any A n c t w hS h.arr h.few h.short)
  cases hv : validT t with
  | false =>
    rw [hv] at HV
    rw [nPrim_bad (good_no1 hv)]
    clear hS h hv
    go_enter Tryz.func14, Tryz.ntmps14
    go_wp2_with fail
    refine HV.out.mono ?_
    rintro e w1 ⟨rfl, k1⟩
    go_wp2
    go_ret
    exact ⟨_, _, _, rfl, .inl ⟨rfl, rfl⟩, k1⟩
  | true =>
    rw [hv] at HV
    have HE := Lib.hid (fun (W : World) (hW : Below w.heap.size w W) => prEncoded_any s W (hS.below hW) (by omega))
    cases he : (decR s).isSome with
    | false =>
      rw [he] at HE
      rw [nPrim_bad (good_no2 he)]
      clear hS h hv he
      go_enter Tryz.func14, Tryz.ntmps14
      go_wp2_with fail
      refine HV.out.mono ?_
      rintro e w1 ⟨rfl, k1⟩
      go_wp2_with fail
      refine (HE.out _ k1).mono ?_
      rintro e w2 ⟨rfl, k2⟩
      go_wp2
      go_ret
      exact ⟨_, _, _, rfl, .inl ⟨rfl, rfl⟩, below_next k1 k2⟩
    | true =>
      rw [he] at HE
      have HG : Hid (nPrim t s = primL (elsT t s)) := Lib.hid (if_pos (good_of hv he))
      rw [HG.out]
      have hnl := nD_len s
      have hdl : (dcF (nL s)).length ≤ 1000 := by
        have h1 := dcF_len (nL s)
        have h2 := nL_len s
        omega
      have HP := Lib.hid (fun (W : World) (hW : Below w.heap.size w W) => prPrepare_any A n c t W (hS.below hW) (h.arr.up hW) hv)
      have HD := Lib.hid (fun (W : World) (hW : Below w.heap.size w W) => prDecompose_s s W (hS.below hW) (by omega))
      have HEls := Lib.hid (fun (W : World) (hW : Below w.heap.size w W) (A' : Option Addr) (n' c' : Nat) (hL : Ltt W W.heap.size (.slice A' n' c') (t.map letL)) => prElements_any A' n' c' (t.map letL) (nD s) (dcF (nL s)) W (hS.below hW) hL (valid_let hv) (dec_enc _ (dcF_ok s)) (fun c hc => ⟨(dc_facts s c hc).1, (dc_facts s c hc).2⟩) (by omega))
      have hee : elemsL (t.map letL) (dcF (nL s)) = elsT t s := rfl
      rw [hee] at HEls
      obtain ⟨els, hels⟩ : ∃ els, elsT t s = els := ⟨_, rfl⟩
      rw [hels] at HEls ⊢
      clear hS h hv he HG hee hels hnl
      go_enter Tryz.func14, Tryz.ntmps14
      go_wp2_with fail
      refine HV.out.mono ?_
      rintro e w1 ⟨rfl, k1⟩
      go_wp2_with fail
      refine (HE.out _ k1).mono ?_
      rintro e w2 ⟨rfl, k2⟩
      have b2 := below_next k1 k2
      go_wp2_with fail
      refine (HP.out _ b2).mono ?_
      rintro e w3 ⟨A3, n3, c3, rfl, hL3, k3⟩
      have b3 := below_next b2 k3
      have HL3 := Lib.hid hL3
      clear hL3
      go_wp2_with fail
      refine (HD.out _ b3).mono ?_
      rintro e w4 ⟨rfl, k4⟩
      have b4 := below_next b3 k4
      have HE4 := Lib.hid (HEls.out _ b4 A3 n3 c3 (HL3.out.up k4))
      go_wp2_with fail
      refine HE4.out.mono ?_
      rintro e w5 ⟨A5, n5, c5, rfl, hE5, hn5, k5⟩
      have b5 := below_next b4 k5
      have HN := Lib.hid hE5.len
      have hn3 : n5 ≤ 3000 := by omega
      clear hn5
      go_wp2
      go_loopw [5, 22] (fun pv iv_ wr => ∃ (k : Nat) (o : List Nat), k ≤ n5 ∧ iv_ = .int .i64 (k : Int) ∧ Hid (primL (els.take k) = o) ∧ o.length ≤ k ∧ wr.ownsRow w5.heap.size 3 1 pv o.length (o.map nv) ∧ Below w5.heap.size w5 wr) (fun _ iv_ _ => n5 - (intOf iv_).toNat)
      case atStart => exact ⟨0, [], by omega, rfl, Lib.hid rfl, by simp, World.ownsRow_nil _ _ _ _, Below.refl _ _⟩
      case round =>
        obtain ⟨k, o, hk, rfl, HO, hol, hown, hb⟩ := hrel
        have hbs := hb.size
        by_cases hlt : k < n5
        · have t1 : decide ((k : Int) < (n5 : Int)) = true := by simp; omega
          have t1' : decide (k < n5) = true := by simpa using hlt
          have kz : (k : Int) < (n5 : Int) := by omega
          obtain ⟨a0, o0, rfl, hA0, hca⟩ := hE5.some_ ev_len (by decide) (by omega)
          obtain ⟨y, hy⟩ : ∃ y, els[k]? = some y := ⟨_, List.getElem?_eq_getElem (by have := HN.out; omega)⟩
          have c0 : wr.cell? ⟨a0, o0 + k * 3, none⟩ = some (.int .i64 (y.1 : Int)) := (hb.cell (p := ⟨a0, o0 + k * 3, none⟩) hA0).trans (hca k y hy 0 _ rfl)
          have c1 : wr.cell? ⟨a0, o0 + k * 3 + 1, none⟩ = some (.int .i64 (y.2.1 : Int)) := (hb.cell (p := ⟨a0, o0 + k * 3 + 1, none⟩) hA0).trans (hca k y hy 1 _ rfl)
          have c2 : wr.cell? ⟨a0, o0 + k * 3 + 2, none⟩ = some (.int .i64 (y.2.2 : Int)) := (hb.cell (p := ⟨a0, o0 + k * 3 + 2, none⟩) hA0).trans (hca k y hy 2 _ rfl)
          have hprim : primL (els.take (k + 1)) = primL (els.take k) ++ primL [y] := by rw [take_next hy, prim_app]
          have hownV := own_keep_below hown ((Below.refl wr.heap.size wr).alloc (Nat.le_refl _) (.cells #[.int .i64 (y.1 : Int), .int .i64 (y.2.1 : Int), .int .i64 (y.2.2 : Int)] 71))
          have hbV := hb.alloc hbs (.cells #[.int .i64 (y.1 : Int), .int .i64 (y.2.1 : Int), .int .i64 (y.2.2 : Int)] 71)
          have hbox := Box.made wr 71 #[.int .i64 (y.1 : Int), .int .i64 (y.2.1 : Int), .int .i64 (y.2.2 : Int)]
          obtain ⟨V, hV⟩ : ∃ V, wr.alloc (.cells #[.int .i64 (y.1 : Int), .int .i64 (y.2.1 : Int), .int .i64 (y.2.2 : Int)] 71) = V := ⟨_, rfl⟩
          rw [hV] at hownV hbV hbox
          have e0 : V.cell? ⟨wr.heap.size, 0, none⟩ = some (.int .i64 (y.1 : Int)) := hbox.cell 0
          have hVs := hbV.size
          obtain ⟨p, sc, te⟩ := y
          simp only at c0 c1 c2 e0 hV hprim
          by_cases hp : p = 0
          · subst hp
            have HO2 : Hid (primL (els.take (k + 1)) = o) := Lib.hid (by rw [hprim, HO.out]; simp [primL])
            have e0' : V.cell? ⟨wr.heap.size, 0, none⟩ = some (.int .i64 0) := e0
            have c0' : wr.cell? ⟨a0, o0 + k * 3, none⟩ = some (.int .i64 0) := c0
            have hV' : wr.alloc (.cells #[.int .i64 0, .int .i64 (sc : Int), .int .i64 (te : Int)] 71) = V := hV
            clear hca hy hown hbox hprim e0 c0 hV
            go_wp2
            go_roundw
            case rel => exact ⟨k + 1, o, by omega, by go_num, HO2, by omega, hownV, hbV⟩
            case measure => simp [intOf]; omega
          · have t2 : ((p : Int) != 0) = true := by simp; omega
            have HO2 : Hid (primL (els.take (k + 1)) = o ++ [p]) := Lib.hid (by rw [hprim, HO.out]; simp [primL, beq_false hp])
            have hol1 : o.length ≤ 1000000000000 - 1 := by omega
            clear hca hy hown hbox hprim hp
            go_wp2_with (at_builtin; refine append_int V rfl (.tmp 29) (.tmp 32) rfl w5.heap.size u5 o rfl hownV p _ rfl rfl (by omega) hVs ?_; intro v7 w7 hown7 hb7)
            go_wp2
            go_roundw
            case rel => exact ⟨k + 1, o ++ [p], by omega, by go_num, HO2, by rw [List.length_append]; simp; omega, hown7, hbV.trans hb7⟩
            case measure => simp [intOf]; omega
        · obtain rfl : k = n5 := by omega
          have t1 : decide ((k : Int) < (k : Int)) = false := by simp
          have t1' : decide (k < k) = false := by simp
          have HE : Hid (primL els = o) := Lib.hid (by have h5 := HO.out; rwa [List.take_of_length_le (by rw [HN.out]; exact Nat.le_refl _)] at h5)
          have hA := Arr.of_own hown
          obtain ⟨A7, c7, h7⟩ := hA.form
          subst h7
          have HA := Lib.hid hA
          clear hA
          go_wp2
          go_ret
          rw [HE.out]
          exact ⟨_, _, _, rfl, HA.out, below_next b5 hb⟩

end Go.Proofs.YtbnchnbblchmnaaGreatDoor
