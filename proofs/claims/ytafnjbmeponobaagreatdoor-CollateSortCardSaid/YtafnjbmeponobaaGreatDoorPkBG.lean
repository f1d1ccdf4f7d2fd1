/-
  The program's key.
  The program's encoded, beginsWithLetter, isText, isAfter.
  The program's Valid: a set of the Texts seen, in a map of the call's own.
-/
import Derived.Test.YtafnjbmeponobaaGreatDoorPcKey
import Derived.Test.YtafnjbmeponobaaGreatDoorPkBD
import Derived.Maps.OwnSet
namespace Go.Proofs.YtafnjbmeponobaaGreatDoor
open Go.RowKit

def keyB (t : List RuleL) (s : List UInt8) : List UInt8 := (keyN (elsT t s) (nD s)).map UInt8.ofNat
theorem prim_flat : ∀ l : List El, ((primL l).flatMap three).map UInt8.ofNat = l.flatMap putPrim
  | [] => rfl
  | e :: l => by
    have ih := prim_flat l
    rw [List.flatMap_cons, ← ih]
    unfold primL putPrim
    rw [List.map_cons]
    by_cases h : e.1 = 0
    · rw [if_pos h, List.filter_cons_of_neg (by rw [h]; decide)]
      rfl
    · rw [if_neg h, List.filter_cons_of_pos (by rw [beq_false h]; rfl), List.flatMap_cons, List.map_append]
theorem sec_flat (l : List El) : (secL l).map UInt8.ofNat = l.flatMap putSec := by
  unfold secL putSec
  rw [List.map_map]
  induction l with
  | nil => rfl
  | cons e l ih => rw [List.map_cons, ih, List.flatMap_cons]; rfl
theorem ter_flat (l : List El) : (terL l).map UInt8.ofNat = l.flatMap putTer := by
  unfold terL putTer
  rw [List.map_map]
  induction l with
  | nil => rfl
  | cons e l ih => rw [List.map_cons, ih, List.flatMap_cons]; rfl
theorem nats_bytes (l : List UInt8) : (l.map fun x => x.toNat).map UInt8.ofNat = l := by
  rw [List.map_map]
  conv => rhs; rw [← List.map_id l]
  apply List.map_congr_left
  intro a _
  simp
theorem keyB_eq (t : List RuleL) (s : List UInt8) : keyB t s = ((((([] ++ (elsT t s).flatMap putPrim ++ List.replicate 3 0) ++ (elsT t s).flatMap putSec ++ List.replicate 1 0) ++ (elsT t s).flatMap putTer ++ List.replicate 1 0)) ++ nD s) := by
  unfold keyB keyN
  rw [List.map_append, prim_flat, List.map_append, List.map_append, sec_flat, List.map_cons, List.map_append, ter_flat, List.map_cons, nats_bytes]
  have e3 : (three 0).map UInt8.ofNat = List.replicate 3 0 := by kernel_rfl
  have e1 : UInt8.ofNat 0 = 0 := rfl
  rw [e3, e1]
  simp [List.append_assoc]
theorem strCells_str (f : List UInt8) : Lib.strCells (str f) = f.map bv := by
  unfold Lib.strCells str bv
  simp

set_option maxRecDepth 100000 in
set_option maxHeartbeats 6400000 in
theorem prKey_any (A : Option Addr) (n c : Nat) (t : List RuleL) (s : List UInt8) (w : World) (hS : Spans w) (hL : Ltt w w.heap.size (.slice A n c) (t.map letL)) (hv : validT t = true) (hs : s.length ≤ 500) :
    Calls Tryz.prog 42 #[.slice A n c, .string (str s)] w fun e w' => ∃ A' n' c', e = .returned (.slice A' n' c') ∧ Arr bv w' w'.heap.size (.slice A' n' c') (keyB t s) ∧ Below w.heap.size w w' := by
  have HK := Lib.hid (keyB_eq t s)
  have hnl := nD_len s
  have hdl : (dcF (nL s)).length ≤ 1000 := by
    have h1 := dcF_len (nL s)
    have h2 := nL_len s
    omega
  have HD := Lib.hid (prDecompose_s s w hS (by omega))
  have HOk : Hid (∀ e ∈ elsT t s, okE e) := Lib.hid (els_ok hv s)
  have HEls := Lib.hid (fun (W : World) (hW : Below w.heap.size w W) => prElements_any A n c (t.map letL) (nD s) (dcF (nL s)) W (hS.below hW) (hL.up hW) (valid_let hv) (dec_enc _ (dcF_ok s)) (fun c hc => ⟨(dc_facts s c hc).1, (dc_facts s c hc).2⟩) (by omega))
  obtain ⟨K, hK⟩ : ∃ K, keyB t s = K := ⟨_, rfl⟩
  have he : elemsL (t.map letL) (dcF (nL s)) = elsT t s := rfl
  rw [he] at HEls
  obtain ⟨els, hels⟩ : ∃ els, elsT t s = els := ⟨_, rfl⟩
  obtain ⟨dl, hdl2⟩ : ∃ dl, (dcF (nL s)).length = dl := ⟨_, rfl⟩
  obtain ⟨f, hf⟩ : ∃ f, nD s = f := ⟨_, rfl⟩
  rw [hf] at HD HK HEls hnl
  rw [hels] at HK HOk HEls
  rw [hdl2] at HEls hdl
  rw [hK] at HK ⊢
  clear hK he hels hdl2 hf hS hL hv
  go_enter Tryz.func42, Tryz.ntmps42
  go_wp2_with fail
  refine HD.out.mono ?_
  rintro e w1 ⟨rfl, k1⟩
  go_wp2_with fail
  refine (HEls.out _ k1).mono ?_
  rintro e w2 ⟨A2, n2, c2, rfl, hE2, hn2, k2⟩
  have hb2 := below_next k1 k2
  obtain ⟨V, hV⟩ : ∃ V, (w2.alloc (.cells #[.slice A2 n2 c2] 72)).alloc (.cells #[.slice none 0 0] 30) = V := ⟨_, rfl⟩
  have hAll := (Box.made w2 72 #[.slice A2 n2 c2]).alloc (.cells #[.slice none 0 0] 30)
  have hBox := Box.made (w2.alloc (.cells #[.slice A2 n2 c2] 72)) 30 #[.slice none 0 0]
  have hz : (w2.alloc (.cells #[.slice A2 n2 c2] 72)).heap.size = w2.heap.size + 1 := by simp
  have hbV : Below w2.heap.size w2 V := by rw [← hV]; exact ((Below.refl _ _).alloc (Nat.le_refl _) _).alloc (by simp) _
  rw [hz] at hBox
  rw [hV] at hAll hBox
  obtain ⟨P, hP⟩ : ∃ P, w2.heap.size + 1 = P := ⟨_, rfl⟩
  rw [hP] at hBox
  have hLP : w2.heap.size < P := by omega
  have hB0 : Buf V P (.slice none 0 0) [] := ⟨hBox, World.ownsRow_nil _ _ _ _⟩
  have hEV := (hE2.below hbV).more (Nat.le_of_lt hLP)
  have hn3 : n2 ≤ 3000 := by omega
  have hel : els.length = n2 := hE2.len
  have hpl := puts_len (fun e => (put_len3 e).1) els
  have hsl := puts_len (fun e => (put_len3 e).2.1) els
  have htl := puts_len (fun e => (put_len3 e).2.2) els
  have H1 := Lib.hid (levelPrim_any P w2.heap.size _ [] A2 n2 c2 els V hB0 hAll hEV HOk.out hLP (by simp; omega))
  obtain ⟨b1, hb1⟩ : ∃ b1, [] ++ els.flatMap putPrim ++ List.replicate 3 0 = b1 := ⟨_, rfl⟩
  have hl1 : b1.length ≤ 9003 := by rw [← hb1, List.nil_append, List.length_append, List.length_replicate]; omega
  rw [hb1] at H1 HK
  clear hBox hE2 hn2 hz hB0 hb1
  go_wp2_with fail
  refine H1.out.mono ?_
  rintro en w3 ⟨rfl, ⟨u3, hB3⟩, k3⟩
  have hAll3 := hAll.below k3 hLP
  have hEV3 := hEV.below k3
  have H2 := Lib.hid (levelSec_any P w2.heap.size u3 b1 A2 n2 c2 els w3 hB3 hAll3 hEV3 HOk.out hLP (by omega))
  obtain ⟨b2, hb2e⟩ : ∃ b2, b1 ++ els.flatMap putSec ++ List.replicate 1 0 = b2 := ⟨_, rfl⟩
  have hl2 : b2.length ≤ 18004 := by rw [← hb2e, List.length_append, List.length_append, List.length_replicate]; omega
  rw [hb2e] at H2 HK
  clear hAll hEV hb2e hB3
  go_wp2_with fail
  refine H2.out.mono ?_
  rintro en w4 ⟨rfl, ⟨u4, hB4⟩, k4⟩
  have hAll4 := hAll3.below k4 hLP
  have hEV4 := hEV3.below k4
  have H3 := Lib.hid (levelTer_any P w2.heap.size u4 b2 A2 n2 c2 els w4 hB4 hAll4 hEV4 HOk.out hLP (by omega))
  obtain ⟨b3, hb3e⟩ : ∃ b3, b2 ++ els.flatMap putTer ++ List.replicate 1 0 = b3 := ⟨_, rfl⟩
  have hl3 : b3.length ≤ 27005 := by rw [← hb3e, List.length_append, List.length_append, List.length_replicate]; omega
  rw [hb3e] at H3 HK
  clear hAll3 hEV3 hb3e hB4
  go_wp2_with fail
  refine H3.out.mono ?_
  rintro en w5 ⟨rfl, ⟨u5, hB5⟩, k5⟩
  have hPw : P + 1 ≤ w5.heap.size := hB5.box.lt
  obtain ⟨i0, hi, hz0, hz1, hz2⟩ := info_parts info_u8k
  obtain ⟨v7, w7, hr, hown7, hg7, -⟩ := Lib.run_append_own_string (P := Tryz.prog) w5 (P + 1) 30 9 30 5 i0 Tryz.underlying30 (by kernel_rfl) hi hz0 hz1 hz2 u5 _ _ hB5.own (str f) (by rw [str_size]; unfold maxLen; omega) (by rw [str_size]; omega) hPw
  rw [strCells_str, ← List.map_append, str_size, ← List.length_append] at hown7
  rw [← HK.out] at hown7
  have hb7 := below_own hB5.own hPw hg7
  have hA7 := Arr.of_own hown7
  obtain ⟨A7, N7, c7, rfl⟩ := hA7.form3
  have d5 : w5.cell? ⟨P, 0, none⟩ = some u5 := hB5.box.cell 0
  have hbE : Below w2.heap.size w2 w7 := hbV.trans (((k3.trans (k4.trans (k5.trans (hb7.mono (Nat.le_succ P)))))).mono (Nat.le_of_lt hLP))
  have HA7 := Lib.hid hA7
  clear hown7 hA7 hB5 hg7 hb7 hAll4 hEV4
  go_wp2_with (at_builtin; refine Lib.wpList_append_run _ rfl (.tmp 24) (.tmp 25) _ _ rfl _ _ rfl rfl _ _ hr ?_)
  go_ret
  exact ⟨_, _, _, rfl, HA7.out, below_next hb2 hbE⟩

end Go.Proofs.YtafnjbmeponobaaGreatDoor

namespace Go.Proofs.YtafnjbmeponobaaGreatDoor
open Go.RowKit

theorem dec_nil_iff {s : List UInt8} {l : List Nat} (h : decR s = some l) : l = [] ↔ s = [] := by
  obtain ⟨he, _⟩ := enc_dec h
  constructor
  · intro e; rw [← he, e]; rfl
  · intro e
    subst e
    have : decR [] = some [] := by kernel_rfl
    rw [this] at h
    exact (Option.some.inj h).symm
theorem cut_one {s : List UInt8} {c : Nat} {l : List Nat} (h : decR s = some (c :: l)) : cutR s 1 = encL [c] ∧ decR (encL [c]) = some [c] := by
  refine ⟨by rw [cutR_some h (by omega)]; rfl, ?_⟩
  exact dec_enc _ fun x hx => (enc_dec h).2 x (by rw [List.mem_singleton.1 hx]; simp)
theorem fold_nd {s : List UInt8} {l : List Nat} (hd : decR s = some l) (h : nFold s = s) : nD s = s := by
  have h1 := nL_nFold s
  rw [h] at h1
  have h2 : Dec (nL s) := by rw [h1]; exact nFL_dec _
  unfold nD
  rw [dc_dec h2]
  have hn : nL s = l := by unfold nL; rw [hd]; rfl
  rw [hn]
  exact (enc_dec hd).1

set_option maxRecDepth 20000 in
set_option maxHeartbeats 3200000 in
theorem prEncoded_any (s : List UInt8) (w : World) (hS : Spans w) (hs : s.length ≤ 5000) :
    Calls Tryz.prog 41 #[.string (str s)] w fun e w' => e = .returned (.bool (decR s).isSome) ∧ Below w.heap.size w w' := by
  have HC := Lib.hid (prCount_any s w hS (by omega))
  by_cases h0 : s = []
  · subst h0
    have z0 : ((str ([] : List UInt8)).toList == []) = true := by rw [str_toList]; rfl
    have z1 : (str ([] : List UInt8)).toList = [] := str_toList []
    have e0 : (decR ([] : List UInt8)).isSome = true := by kernel_rfl
    rw [e0]
    clear hS
    go_enter Tryz.func41, Tryz.ntmps41
    go_wp2
    go_ret
    exact ⟨rfl, Below.refl _ _⟩
  · have z0 := str_beq_nil h0
    have z1 : ¬ (str s).toList = [] := by rw [str_toList]; exact h0
    cases hd : decR s with
    | none =>
      rw [countR_none hd] at HC
      clear hS hd
      go_enter Tryz.func41, Tryz.ntmps41
      go_wp2_with fail
      refine HC.out.mono ?_
      rintro e w1 ⟨rfl, k1⟩
      go_wp2
      go_ret
      exact ⟨rfl, k1⟩
    | some l =>
      rw [countR_some hd] at HC
      have hl : 0 < l.length := List.length_pos_iff.2 fun e => h0 ((dec_nil_iff hd).1 e)
      obtain ⟨n, hn⟩ : ∃ n, l.length = n := ⟨_, rfl⟩
      rw [hn] at HC hl
      have t1 : decide ((n : Int) > 0) = true := by simp; omega
      have t1' : decide ((0 : Int) < (n : Int)) = true := by simp; omega
      have t1n : decide (0 < n) = true := by simpa using hl
      clear hS hd hn
      go_enter Tryz.func41, Tryz.ntmps41
      go_wp2_with fail
      refine HC.out.mono ?_
      rintro e w1 ⟨rfl, k1⟩
      go_wp2
      go_ret
      exact ⟨rfl, k1⟩

set_option maxRecDepth 20000 in
set_option maxHeartbeats 3200000 in
theorem prBegins_any (s : List UInt8) (c : Nat) (l : List Nat) (w : World) (hS : Spans w) (hd : decR s = some (c :: l)) :
    Calls Tryz.prog 63 #[.string (str s)] w fun e w' => e = .returned (.bool (Nat.beq (kN c) 1)) ∧ Below w.heap.size w w' := by
  have HC := Lib.hid (prCut_any s 1 w hS (by omega))
  obtain ⟨h1, h2⟩ := cut_one hd
  rw [h1] at HC
  have hl := encL_len [c]
  have HD := Lib.hid (fun (W : World) (hW : Below w.heap.size w W) => prDecode_any (encL [c]) W (hS.below hW) (by simp at hl; omega))
  rw [h2] at HD
  have HCl := Lib.hid (fun (W : World) (hW : Below w.heap.size w W) => prClass_any (c : Int) W (hS.below hW))
  have hk : clsR (c : Int) = (scN c, kN c) := by rw [clsF_eq]; rfl
  rw [hk] at HCl
  unfold two at HCl
  obtain ⟨k, hk2⟩ : ∃ k, kN c = k := ⟨_, rfl⟩
  obtain ⟨sc, hsc⟩ : ∃ sc, scN c = sc := ⟨_, rfl⟩
  obtain ⟨e1, he1⟩ : ∃ e1, encL [c] = e1 := ⟨_, rfl⟩
  simp only [hk2, hsc] at HCl ⊢
  rw [he1] at HC HD
  have HB : Hid (Nat.beq k 1 = ((k : Int) == 1)) := Lib.hid (by
    by_cases h : k = 1
    · rw [beq_of h, eqb_true (by omega)]
    · rw [beq_false h, eqb_false (by omega)])
  rw [HB.out]
  clear hk hk2 hsc he1 h1 h2 hl hS hd
  go_enter Tryz.func63, Tryz.ntmps63
  go_wp2_with fail
  refine HC.out.mono ?_
  rintro e w1 ⟨rfl, k1⟩
  go_wp2_with fail
  refine (HD.out _ k1).mono ?_
  rintro e w2 ⟨hde, k2⟩
  obtain ⟨A3, n3, c3, b', rfl, hcase⟩ := hde.form
  rcases hcase with ⟨rfl, l', hl', hn3, hA3, -⟩ | ⟨rfl, h', -⟩
  case inr => cases h'
  obtain rfl := Option.some.inj hl'
  obtain rfl : n3 = 1 := hn3
  obtain ⟨a3, q3, rfl, hA3b, hc3⟩ := hA3.some_ (by decide)
  have d2 : w2.cell? ⟨a3, q3, none⟩ = some (.int .i64 (c : Int)) := hc3 0 c rfl
  have hb2 := below_next k1 k2
  clear hde hl' hc3 hA3
  go_wp2_with fail
  refine (HCl.out _ hb2).mono ?_
  rintro e w3 ⟨rfl, k3⟩
  go_wp2
  go_ret
  exact ⟨rfl, below_next hb2 k3⟩

set_option maxRecDepth 20000 in
set_option maxHeartbeats 3200000 in
theorem prIsAfter_any (s : List UInt8) (w : World) (hS : Spans w) (hs : s.length ≤ 5000) :
    Calls Tryz.prog 37 #[.string (str s)] w fun e w' => e = .returned (.bool (afterB s)) ∧ Below w.heap.size w w' := by
  have HC := Lib.hid (prCount_any s w hS (by omega))
  have h2 : ∀ b : Bool, (countR s = 1 → (∃ c, decR s = some [c] ∧ b = (Nat.beq (kN c) 1 && nIs6 s))) → (countR s ≠ 1 → b = false) → afterB s = b := by
    intro b h1 h0
    unfold afterB
    cases hd : decR s with
    | none => rw [h0 (by rw [countR_none hd]; decide)]
    | some l =>
      by_cases h : l.length = 1
      · obtain ⟨c, hc, e⟩ := h1 (by rw [countR_some hd]; exact h)
        rw [hd] at hc
        obtain rfl := Option.some.inj hc
        rw [e]
        rfl
      · rw [h0 (by rw [countR_some hd]; exact h)]
        simp only
        rw [beq_false h]
        rfl
  by_cases h1 : countR s = 1
  · obtain ⟨c, hd⟩ : ∃ c, decR s = some [c] := by
      cases hd : decR s with
      | none => rw [countR_none hd] at h1; cases h1
      | some l =>
        rw [countR_some hd] at h1
        obtain ⟨c, rfl⟩ := List.length_eq_one_iff.1 h1
        exact ⟨c, rfl⟩
    have HE := Lib.hid (h2 (Nat.beq (kN c) 1 && nIs6 s) (fun _ => ⟨c, hd, rfl⟩) (fun h => absurd h1 h))
    rw [h1] at HC
    have HBg := Lib.hid (fun (W : World) (hW : Below w.heap.size w W) => prBegins_any s c [] W (hS.below hW) hd)
    have HIs := Lib.hid (fun (W : World) (hW : Below w.heap.size w W) => prIs6_s s W (hS.below hW) hs)
    rw [HE.out]
    obtain ⟨q, hq⟩ : ∃ q, nIs6 s = q := ⟨_, rfl⟩
    rw [hq] at HIs ⊢
    cases hb : Nat.beq (kN c) 1 with
    | false =>
      rw [hb] at HBg
      clear h2 hS hd HE hb hq
      go_enter Tryz.func37, Tryz.ntmps37
      go_wp2_with fail
      refine HC.out.mono ?_
      rintro e w1 ⟨rfl, k1⟩
      go_wp2_with fail
      refine (HBg.out _ k1).mono ?_
      rintro e w2 ⟨rfl, k2⟩
      go_wp2
      go_ret
      exact ⟨rfl, below_next k1 k2⟩
    | true =>
      rw [hb] at HBg
      clear h2 hS hd HE hb hq
      go_enter Tryz.func37, Tryz.ntmps37
      go_wp2_with fail
      refine HC.out.mono ?_
      rintro e w1 ⟨rfl, k1⟩
      go_wp2_with fail
      refine (HBg.out _ k1).mono ?_
      rintro e w2 ⟨rfl, k2⟩
      have hb2 := below_next k1 k2
      go_wp2_with fail
      refine (HIs.out _ hb2).mono ?_
      rintro e w3 ⟨rfl, k3⟩
      go_wp2
      go_ret
      exact ⟨rfl, below_next hb2 k3⟩
  · have HE := Lib.hid (h2 false (fun h => absurd h h1) (fun _ => rfl))
    rw [HE.out]
    obtain ⟨m, hm⟩ : ∃ m, countR s = m := ⟨_, rfl⟩
    rw [hm] at HC h1
    have t1 : ((m : Int) == 1) = false := eqb_false (by omega)
    clear h2 hS HE hm
    go_enter Tryz.func37, Tryz.ntmps37
    go_wp2_with fail
    refine HC.out.mono ?_
    rintro e w1 ⟨rfl, k1⟩
    go_wp2
    go_ret
    exact ⟨rfl, k1⟩

set_option maxRecDepth 20000 in
set_option maxHeartbeats 3200000 in
theorem prIsText_any (s : List UInt8) (w : World) (hS : Spans w) (hs : s.length ≤ 5000) :
    Calls Tryz.prog 36 #[.string (str s)] w fun e w' => e = .returned (.bool (textB s)) ∧ Below w.heap.size w w' := by
  have HC := Lib.hid (prCount_any s w hS (by omega))
  by_cases h1 : 1 ≤ countR s
  · obtain ⟨c, l, hd⟩ : ∃ c l, decR s = some (c :: l) := by
      cases hd : decR s with
      | none => rw [countR_none hd] at h1; omega
      | some l =>
        rw [countR_some hd] at h1
        cases l with
        | nil => simp at h1
        | cons c l => exact ⟨c, l, rfl⟩
    have hc : countR s = (c :: l).length := countR_some hd
    by_cases h4 : countR s ≤ 4
    · have HFo := Lib.hid (fun (W : World) (hW : Below w.heap.size w W) => prFold_s s W (hS.below hW) hs)
      have HBg := Lib.hid (fun (W : World) (hW : Below w.heap.size w W) => prBegins_any s c l W (hS.below hW) hd)
      have HQ := str_beq (nFold s) s
      have HE : Hid (textB s = (decide (nFold s = s) && Nat.beq (kN c) 1)) := Lib.hid (by
        unfold textB
        rw [hd]
        simp only
        rw [show Nat.ble (c :: l).length 4 = true from ble_of (by omega)]
        by_cases hf : nFold s = s
        · rw [decide_eq_true hf, decide_eq_true (fold_nd hd hf)]
          show (true && Nat.beq (kN c) 1 && true && true) = _
          simp
        · rw [decide_eq_false hf]
          simp)
      rw [HE.out]
      obtain ⟨F, hF⟩ : ∃ F, nFold s = F := ⟨_, rfl⟩
      rw [hF] at HFo HQ ⊢
      obtain ⟨q, hq⟩ : ∃ q, decide (F = s) = q := ⟨_, rfl⟩
      rw [hq] at HQ ⊢
      obtain ⟨bl, hbl⟩ : ∃ bl, Nat.beq (kN c) 1 = bl := ⟨_, rfl⟩
      rw [hbl] at HBg ⊢
      obtain ⟨m, hm⟩ : ∃ m, countR s = m := ⟨_, rfl⟩
      rw [hm] at HC h1 h4
      have t1 : decide ((1 : Int) ≤ (m : Int)) = true := by simp; omega
      have t1n : decide (1 ≤ m) = true := by simpa using h1
      have t4 : decide ((m : Int) ≤ 4) = true := by simp; omega
      have t4n : decide (m ≤ 4) = true := by simpa using h4
      clear hS hd hc HE hF hq hbl hm
      cases q with
      | false =>
        go_enter Tryz.func36, Tryz.ntmps36
        go_wp2_with fail
        refine HC.out.mono ?_
        rintro e w1 ⟨rfl, k1⟩
        go_wp2_with fail
        refine (HFo.out _ k1).mono ?_
        rintro e w2 ⟨rfl, k2⟩
        go_wp2
        go_ret
        exact ⟨rfl, below_next k1 k2⟩
      | true =>
        go_enter Tryz.func36, Tryz.ntmps36
        go_wp2_with fail
        refine HC.out.mono ?_
        rintro e w1 ⟨rfl, k1⟩
        go_wp2_with fail
        refine (HFo.out _ k1).mono ?_
        rintro e w2 ⟨rfl, k2⟩
        have hb2 := below_next k1 k2
        go_wp2_with fail
        refine (HBg.out _ hb2).mono ?_
        rintro e w3 ⟨rfl, k3⟩
        go_wp2
        go_ret
        exact ⟨rfl, below_next hb2 k3⟩
    · have HE : Hid (textB s = false) := Lib.hid (by
        unfold textB
        rw [hd]
        simp only
        cases hb : Nat.ble (c :: l).length 4 with
        | false => rfl
        | true => rw [Nat.ble_eq] at hb; omega)
      rw [HE.out]
      obtain ⟨m, hm⟩ : ∃ m, countR s = m := ⟨_, rfl⟩
      rw [hm] at HC h1 h4
      have t1 : decide ((1 : Int) ≤ (m : Int)) = true := by simp; omega
      have t1n : decide (1 ≤ m) = true := by simpa using h1
      have t4 : decide ((m : Int) ≤ 4) = false := by simp; omega
      have t4n : decide (m ≤ 4) = false := by simpa using h4
      clear hS hd hc HE hm
      go_enter Tryz.func36, Tryz.ntmps36
      go_wp2_with fail
      refine HC.out.mono ?_
      rintro e w1 ⟨rfl, k1⟩
      go_wp2
      go_ret
      exact ⟨rfl, k1⟩
  · have h0 : countR s = 0 := by omega
    have HE : Hid (textB s = false) := Lib.hid (by
      unfold textB
      cases hd : decR s with
      | none => rfl
      | some l =>
        rw [countR_some hd] at h0
        obtain rfl := List.length_eq_zero_iff.1 h0
        rfl)
    rw [HE.out]
    rw [h0] at HC
    clear hS HE h0 h1
    go_enter Tryz.func36, Tryz.ntmps36
    go_wp2_with fail
    refine HC.out.mono ?_
    rintro e w1 ⟨rfl, k1⟩
    go_wp2
    go_ret
    exact ⟨rfl, k1⟩

end Go.Proofs.YtafnjbmeponobaaGreatDoor

namespace Go.Proofs.YtafnjbmeponobaaGreatDoor
open Go.RowKit Go.Maps

theorem distB_snoc (x : RuleL) : ∀ l : List RuleL, distB (l ++ [x]) = (distB l && l.all fun y => decide (y.1 ≠ x.1))
  | [] => rfl
  | z :: l => by
    have ih := distB_snoc x l
    have e : decide (x.1 ≠ z.1) = decide (z.1 ≠ x.1) := decide_eq_decide.2 ⟨Ne.symm, Ne.symm⟩
    rw [List.cons_append, distB, distB, ih, List.all_append, List.all_cons, List.all_nil, List.all_cons, e]
    cases l.all (fun y => decide (y.1 ≠ z.1)) <;> cases decide (z.1 ≠ x.1) <;> cases distB l <;> rfl
theorem preT_snoc (l : List RuleL) (x : RuleL) : preT (l ++ [x]) = (preT l && (textB x.1 && afterB x.2 && l.all fun y => decide (y.1 ≠ x.1))) := by
  unfold preT
  rw [distB_snoc, List.all_append, show [x].all letB = letB x by simp]
  unfold letB
  cases l.all (fun x => textB x.1 && afterB x.2) <;> cases textB x.1 <;> cases afterB x.2 <;> cases distB l <;> cases l.all (fun y => decide (y.1 ≠ x.1)) <;> rfl
theorem preT_take {t : List RuleL} (h : preT t = true) : ∀ k, preT (t.take (t.length - k)) = true
  | 0 => by rw [Nat.sub_zero, List.take_of_length_le (Nat.le_refl _)]; exact h
  | k + 1 => by
    have ih := preT_take h k
    by_cases hk : k < t.length
    · obtain ⟨m, hm⟩ : ∃ m, t.length - k = m + 1 := ⟨t.length - k - 1, by omega⟩
      have hx : t[m]? = some t[m] := List.getElem?_eq_getElem (by omega)
      rw [hm, take_next hx, preT_snoc, Bool.and_eq_true] at ih
      rw [show t.length - (k + 1) = m by omega]
      exact ih.1
    · rw [show t.length - (k + 1) = t.length - k by omega]
      exact ih
theorem validT_no {t : List RuleL} {k : Nat} (h : preT (t.take k) = false) : validT t = false := by
  cases hv : validT t with
  | false => rfl
  | true =>
    unfold validT at hv
    rw [Bool.and_eq_true] at hv
    have h1 := preT_take hv.1 (t.length - k)
    by_cases hk : k ≤ t.length
    · rw [show t.length - (t.length - k) = k by omega, h] at h1
      cases h1
    · rw [List.take_of_length_le (by omega), hv.1] at h
      cases h

/-- Which Texts have been seen. -/
def Seen (D : DataW Unit) (l : List RuleL) : Prop := IsMap D ∧ ∀ p : List UInt8, D.atKey (.string p) (.lit (.bool false)) = .lit (.bool (!(l.all fun y => decide (y.1 ≠ p))))
theorem seen_nil : Seen (.map []) [] := ⟨isMap_empty, fun _ => rfl⟩
theorem seen_next {D : DataW Unit} {l : List RuleL} (h : Seen D l) (x : RuleL) : Seen (D.put (.string x.1) (.lit (.bool true))) (l ++ [x]) := by
  refine ⟨h.1.put _ _, fun p => ?_⟩
  by_cases hp : x.1 = p
  · subst hp
    rw [atKey_put_same (k := .string x.1) h.1 trivial]
    simp
  · rw [atKey_put_other (fun e => hp (by injection e with e; exact e.symm)), h.2 p]
    rw [List.all_append]
    simp [hp]
theorem plain_bool_inv {P : Program} {e : TypeId} (he : P.underlying e = some .bool) {v : Value} {b : Bool} {ps : List MemPlace} (h : plainElem (H := Unit) P e v = some (.lit (.bool b), ps)) : v = .bool b := by
  unfold plainElem at h
  rw [he] at h
  cases v <;> simp at h
  rw [h.1]
/-- The look-up of a side, in whatever world the map stands. -/
theorem seen_look {D : DataW Unit} {l : List RuleL} (h : Seen D l) {b n : Nat} {W : World} (hown : W.ownsMap Tryz.prog 9 (plainElem Tryz.prog 4) b n D) (p : List UInt8) (hp : p.length ≤ 1000000) :
    (Instr.lookup 62 (.map (some b)) (.string (str p)) false).run Tryz.prog W = .ok (.bool (!(l.all fun y => decide (y.1 ≠ p)))) W := by
  have hkey : keyOf Tryz.prog 9 (.string (str p)) = some (.string (str p).data.toList) := WideMaps.keyOf_string_mk (P := Tryz.prog) Tryz.underlying9 (by rw [str_size]; unfold maxLen; omega)
  have ep : (str p).data.toList = p := by simp [str]
  rw [ep] at hkey
  obtain ⟨v, ps, hrun, hv⟩ := hown.lookup (string_keyed Tryz.underlying9) Tryz.underlying62 (Tryz.zeroValue4 W) (zd := .lit (.bool false)) (zp := []) (plainElem_bool Tryz.underlying4 false) hkey
  rw [h.2 p] at hv
  rw [hrun, plain_bool_inv Tryz.underlying4 hv]

theorem map_kept {w w' : World} {D : DataW Unit} {b n : Nat} (h : w.ownsMap Tryz.prog 9 (plainElem Tryz.prog 4) b n D) (hb : Below w.heap.size w w') : w'.ownsMap Tryz.prog 9 (plainElem Tryz.prog 4) b n D := h.kept (grown_of_below none hb) (by simp)

set_option maxRecDepth 20000 in
set_option maxHeartbeats 6400000 in
theorem prValid_any (A : Option Addr) (n c : Nat) (t : List RuleL) (w : World) (hS : Spans w) (h : SArr 2 rv w w.heap.size (.slice A n c) t) (hn : n ≤ 1000) (hsh : ∀ x ∈ t, x.1.length ≤ 1000 ∧ x.2.length ≤ 1000) :
    Calls Tryz.prog 12 #[.slice A n c] w fun e w' => e = .returned (.bool (validT t)) ∧ Below w.heap.size w w' := by
  have HL := Lib.hid h.len
  have HSh := Lib.hid hsh
  have HRdy := Lib.hid hS
  obtain ⟨R, hR⟩ : ∃ R, validT t = R := ⟨_, rfl⟩
  rw [hR]
  have HR := Lib.hid hR
  clear hR hS hsh
  by_cases h2 : 40 < n
  · have t2 : decide (40 < (n : Int)) = true := by simp; omega
    have t2n : decide (40 < n) = true := by simpa using h2
    have HE : Hid (R = false) := Lib.hid (by
      rw [← HR.out]
      unfold validT
      rw [HL.out, decide_eq_false (show ¬ n ≤ 40 by omega)]
      simp)
    go_enter Tryz.func12, Tryz.ntmps12
    go_wp2
    go_ret
    rw [HE.out]
    exact ⟨rfl, Below.refl _ _⟩
  have t2 : decide (40 < (n : Int)) = false := by simp; omega
  have t2n : decide (40 < n) = false := by simpa using h2
  have hmm := @run_makeMap Tryz.prog
  go_enter Tryz.func12, Tryz.ntmps12
  go_wp2
  go_loopw [12] (fun i wr => ∃ (k : Nat) (D : DataW Unit), k ≤ n ∧ i = .int .i64 (k : Int) ∧ Hid (preT (t.take k) = true) ∧ Hid (Seen D (t.take k)) ∧ Hid (wr.ownsMap Tryz.prog 9 (plainElem Tryz.prog 4) w.heap.size k D) ∧ Below w.heap.size w wr) (fun i _ => n - (intOf i).toNat)
  case atStart => exact ⟨0, .map [], by omega, rfl, Lib.hid rfl, Lib.hid seen_nil, Lib.hid (World.ownsMap_made _ _ _ _), (Below.refl _ _).alloc (Nat.le_refl _) _⟩
  case round =>
    obtain ⟨k, D, hk, rfl, HP, HD, HO, hb⟩ := hrel
    by_cases hlt : k < n
    · have t3 : decide ((k : Int) < (n : Int)) = true := by simp; omega
      have kz : (k : Int) < (n : Int) := by omega
      obtain ⟨b0, o0, rfl, hB0, hc0⟩ := lets_cells h (by omega)
      obtain ⟨x, hx⟩ : ∃ a, t[k]? = some a := ⟨_, List.getElem?_eq_getElem (by have := HL.out; omega)⟩
      have hxs := HSh.out x (List.mem_of_getElem? hx)
      have d0 := (hb.cell (p := ⟨b0, o0 + k * 2, none⟩) hB0).trans (hc0 k x hx).1
      have d1 := (hb.cell (p := ⟨b0, o0 + k * 2 + 1, none⟩) hB0).trans (hc0 k x hx).2
      have HTk : Hid (t.take (k + 1) = t.take k ++ [x]) := Lib.hid (take_next hx)
      have HN : Hid (preT (t.take (k + 1)) = (textB x.1 && afterB x.2 && (t.take k).all fun y => decide (y.1 ≠ x.1))) := Lib.hid (by rw [take_next hx, preT_snoc, HP.out]; rfl)
      have hba := (Below.refl wr.heap.size wr).alloc (Nat.le_refl _) (.cells #[.string (str x.1), .string (str x.2)] 60)
      have HP1 := Lib.hid (prIsText_any x.1 _ ((HRdy.out.below hb).below hba) (by omega))
      obtain ⟨s1, hs1⟩ : ∃ z, textB x.1 = z := ⟨_, rfl⟩
      obtain ⟨s2, hs2⟩ : ∃ z, afterB x.2 = z := ⟨_, rfl⟩
      obtain ⟨s3, hs3⟩ : ∃ z, (t.take k).all (fun y => decide (y.1 ≠ x.1)) = z := ⟨_, rfl⟩
      rw [hs1, hs2, hs3] at HN
      rw [hs1] at HP1
      have HS2 := Lib.hid hs2
      have HS3 := Lib.hid hs3
      have HBA := Lib.hid hba
      have hxx : x.1.length ≤ 1000 ∧ x.2.length ≤ 1000 := hxs
      clear hc0 hx hs1 hs2 hs3 hba hxs
      go_wp2_with fail
      refine HP1.out.mono ?_
      rintro e w1 ⟨rfl, k1⟩
      have b1 : Below wr.heap.size wr w1 := below_next HBA.out k1
      have bw1 : Below w.heap.size w w1 := below_next hb b1
      have c0 : w1.cell? ⟨wr.heap.size, 0, none⟩ = some (.string (str x.1)) := (k1.cell (p := ⟨wr.heap.size, 0, none⟩) (by simp)).trans (by simp)
      have c1 : w1.cell? ⟨wr.heap.size, 1, none⟩ = some (.string (str x.2)) := (k1.cell (p := ⟨wr.heap.size, 1, none⟩) (by simp)).trans (by simp)
      have hs1 : wr.heap.size < w1.heap.size := by have := k1.size; simp at this; omega
      have HO1 := Lib.hid (map_kept HO.out b1)
      clear k1 d0 d1
      cases s1 with
      | false =>
        have HE : Hid (R = false) := Lib.hid (by rw [← HR.out]; exact validT_no (k := k + 1) (by rw [HN.out]; rfl))
        go_wp2
        go_ret
        rw [HE.out]
        exact ⟨rfl, bw1⟩
      | true =>
        have HP2 := Lib.hid (prIsAfter_any x.2 w1 (HRdy.out.below bw1) (by omega))
        rw [HS2.out] at HP2
        go_wp2_with fail
        refine HP2.out.mono ?_
        rintro e w2 ⟨rfl, k2⟩
        have bw2 : Below w.heap.size w w2 := below_next bw1 k2
        have c2 : w2.cell? ⟨wr.heap.size, 0, none⟩ = some (.string (str x.1)) := (k2.cell (p := ⟨wr.heap.size, 0, none⟩) hs1).trans c0
        have hO2 := map_kept HO1.out k2
        have hlook := seen_look HD.out hO2 x.1 (by omega)
        rw [HS3.out] at hlook
        have HO2 := Lib.hid hO2
        clear k2 c0 c1 hO2
        cases s2 with
        | false =>
          have HE : Hid (R = false) := Lib.hid (by rw [← HR.out]; exact validT_no (k := k + 1) (by rw [HN.out]; rfl))
          go_wp2
          go_ret
          rw [HE.out]
          exact ⟨rfl, bw2⟩
        | true =>
          cases s3 with
          | false =>
            have HE : Hid (R = false) := Lib.hid (by rw [← HR.out]; exact validT_no (k := k + 1) (by rw [HN.out]; rfl))
            simp only [Bool.not_false] at hlook
            go_wp2
            go_ret
            rw [HE.out]
            exact ⟨rfl, bw2⟩
          | true =>
            simp only [Bool.not_true] at hlook
            have hkey : keyOf Tryz.prog 9 (.string (str x.1)) = some (.string (str x.1).data.toList) := WideMaps.keyOf_string_mk (P := Tryz.prog) Tryz.underlying9 (by rw [str_size]; unfold maxLen; omega)
            have ep : (str x.1).data.toList = x.1 := by simp [str]
            rw [ep] at hkey
            have hO2 := HO2.out
            have HSN : Hid (Seen (D.put (.string x.1) (.lit (.bool true))) (t.take (k + 1))) := Lib.hid (by rw [HTk.out]; exact seen_next HD.out x)
            have HPN : Hid (preT (t.take (k + 1)) = true) := Lib.hid (by rw [HN.out]; rfl)
            clear ep
            go_wp2_with (first
              | (at_mapUpdate; refine wpList_mapUpdate_own _ rfl _ _ _ 62 rfl 9 4 (string_keyed Tryz.underlying9) Tryz.underlying62 _ w.heap.size k _ rfl hO2 (by unfold maxLen; omega) _ _ _ rfl rfl hkey _ [] (plainElem_bool Tryz.underlying4 true) ?_)
              | go_in)
            intro w3 hown3 hgrow3
            have HO3 := Lib.hid hown3
            have hb3 := bw2.grown hgrow3 bw2.size (fun j hj => by cases hj; exact Nat.le_refl _)
            clear hown3 hgrow3 hO2 hlook hkey
            go_wp2
            go_roundw
            case rel => exact ⟨k + 1, _, by omega, by go_num, HPN, HSN, HO3, hb3⟩
            case measure => simp [intOf]; omega
    · obtain rfl : k = n := by omega
      have t3 : decide ((k : Int) < (k : Int)) = false := by simp
      have HE : Hid (R = true) := Lib.hid (by
        have h5 := HP.out
        rw [List.take_of_length_le (by rw [HL.out]; exact Nat.le_refl _)] at h5
        rw [← HR.out]
        unfold validT
        rw [h5, HL.out, decide_eq_true (show k ≤ 40 by omega)]
        rfl)
      go_wp2
      go_ret
      rw [HE.out]
      exact ⟨rfl, hb⟩

end Go.Proofs.YtafnjbmeponobaaGreatDoor
