/-
  The reference's decomposed.
  The reference's Decompose, encoded, Equal, Strip, Marks.
  The reference's Compose and Is.
  Normal forms of strings: what the statements promise, in plain mathematics.
-/
import Derived.Test.YtbnchnbblchmnaaGreatDoorPkAH
import Derived.Deep.RegionWith
namespace Go.Proofs.YtbnchnbblchmnaaGreatDoor
open Go.RowKit

theorem ins_pos {c p : Nat} {R : List Nat} (h : 0 < clM c) (h2 : clM c < clM p) : insB clM c (p :: R) = p :: insB clM c R := by rw [insB, if_pos ⟨h, h2⟩]
theorem ins_neg {c p : Nat} {R : List Nat} (h : ¬ (0 < clM c ∧ clM c < clM p)) : insB clM c (p :: R) = c :: p :: R := by rw [insB, if_neg h]
theorem decL_some {s : List UInt8} {l : List Nat} (h : decR s = some l) : (decR s).getD [] = l := by rw [h]; rfl

theorem own_M {w : World} {B g n cap : Nat} {e : TypeId} {cur : Array Value} {xs : List Nat} (hl : xs.length = n) (hb : B ≤ g) (hg : Box w g e cur) (hc : n ≤ cap) (hm : cap ≤ maxLen) (hs : cur.size = cap) (ht : cur.toList.take n = xs.map nv) :
    w.ownsRow B e 1 (.slice (some ⟨g, 0, none⟩) n cap) xs.length (xs.map nv) := by
  rw [hl]
  exact own_shut (by rw [List.length_map]; exact hl) hb hg hc hm hs ht

set_option maxRecDepth 100000 in
set_option maxHeartbeats 6400000 in
theorem refDecomposed_any (s : List UInt8) (w : World) (hlen : s.length ≤ 100000) :
    Calls Tryz.prog 120 #[.string (str s)] w fun e w' => ∃ v, e = .returned v ∧ w'.ownsRow w.heap.size 3 1 v (dcF ((decR s).getD [])).length ((dcF ((decR s).getD [])).map nv) ∧ Below w.heap.size w w' := by
  have HD := Lib.hid (refDecode_any s w (by omega))
  obtain ⟨F, hF⟩ : ∃ F, dcF ((decR s).getD []) = F := ⟨_, rfl⟩
  rw [hF]
  have HF := Lib.hid hF
  clear hF
  go_enter Tryz.func120, Tryz.ntmps120
  go_wp2_with fail
  refine HD.out.mono ?_
  rintro e w1 ⟨hd, hb1⟩
  obtain ⟨A, n, cp, b, rfl, hcase⟩ := hd.form
  obtain ⟨l, HL, hA, hok⟩ : ∃ l, Hid ((decR s).getD [] = l) ∧ Arr nv w1 w1.heap.size (.slice A n cp) l ∧ ∀ c ∈ l, c < 65536 := by
    rcases hcase with ⟨_, l, h1, h2, h3, _⟩ | ⟨_, h1, rfl, h2, h3⟩
    · exact ⟨l, Lib.hid (decL_some h1), h3, fun c hc => ((enc_dec h1).2 c hc).1⟩
    · subst h2 h3
      exact ⟨[], Lib.hid (by rw [h1]; rfl), Arr.nil_ _ _, by simp⟩
  have hln := hA.len
  have hn : n ≤ 100000 := by
    rcases hcase with ⟨_, l, h1, h2, _⟩ | ⟨_, h1, _, h2, _⟩
    · have := dec_len h1; omega
    · omega
  have HLn := Lib.hid hln
  have HOK := Lib.hid hok
  clear hd hcase hln hok
  go_wp2
  go_loopw [5, 6] (fun v i wr => ∃ (k : Nat) (O : List Nat), k ≤ n ∧ i = .int .i64 (k : Int) ∧ O.length ≤ 2 * k ∧ Hid (O.reverse = sortB clM [] ((l.take k).flatMap wholeR)) ∧ wr.ownsRow w1.heap.size 3 1 v O.length (O.map nv) ∧ Below w1.heap.size w1 wr) (fun _ i _ => n - (intOf i).toNat)
  case atStart => exact ⟨0, [], by omega, rfl, by simp, Lib.hid rfl, World.ownsRow_nil _ _ _ _, Below.refl _ _⟩
  case round =>
    obtain ⟨k, O, hk, rfl, hOl, HO, hown, hb⟩ := hrel
    have hbs := hb.size
    by_cases hlt : k < n
    · have t1 : decide ((k : Int) < (n : Int)) = true := by simp; omega
      obtain ⟨b0, o0, rfl, hB0, hc0⟩ := hA.some_ (by omega)
      obtain ⟨x, hx⟩ : ∃ a, l[k]? = some a := ⟨_, List.getElem?_eq_getElem (by have := HLn.out; omega)⟩
      have d0 := (hb.cell (p := ⟨b0, o0 + k, none⟩) hB0).trans (hc0 k x hx)
      simp only [nv] at d0
      have kz : (k : Int) < (n : Int) := by omega
      have HW := Lib.hid (refWhole_any x wr (HOK.out x (List.mem_of_getElem? hx)))
      obtain ⟨X, hX⟩ : ∃ X, wholeR x = X := ⟨_, rfl⟩
      have hX2 : X.length ≤ 2 := by rw [← hX]; exact whole_len x
      have HX : Hid (∀ O2 : List Nat, O2.reverse = sortB clM O.reverse X → O2.reverse = sortB clM [] ((l.take (k + 1)).flatMap wholeR)) := Lib.hid fun O2 h => by
        rw [take_next hx, List.flatMap_append, sortB_app, ← HO.out, h, ← hX]
        simp
      rw [hX] at HW
      clear hc0 hx hX
      go_wp2_with fail
      refine HW.out.mono ?_
      rintro e w2 ⟨bx, cx, cs, rfl, hbx, hbox, hcs, hb2⟩
      have hown2 := own_keep_below hown hb2
      have hvb : ∀ g, u5.ownBlock = some g → g ≠ bx := fun g hg => by have := (hown.lt g hg).2; omega
      obtain ⟨N, hN⟩ : ∃ N, X.length = N := ⟨_, rfl⟩
      rw [hN] at hX2 ⊢
      have HXN := Lib.hid hN
      clear hN hown
      go_wp2
      go_loopw [5, 8] (fun v i wr2 => ∃ (q : Nat) (O2 : List Nat), q ≤ N ∧ i = .int .i64 (q : Int) ∧ O2.length = O.length + q ∧ Hid (O2.reverse = sortB clM O.reverse (X.take q)) ∧ wr2.ownsRow w1.heap.size 3 1 v O2.length (O2.map nv) ∧ Box wr2 bx 3 cs ∧ (∀ g, v.ownBlock = some g → g ≠ bx) ∧ Below w1.heap.size w1 wr2 ∧ w2.heap.size ≤ wr2.heap.size) (fun _ i _ => N - (intOf i).toNat)
      case atStart => exact ⟨0, O, by omega, rfl, rfl, Lib.hid rfl, hown2, hbox, hvb, below_next hb hb2, Nat.le_refl _⟩
      case round =>
        obtain ⟨q, O2, hq, rfl, hO2l, HO2, hown2, hbox, hvb, hb3, hws⟩ := hrel
        have hb2s := hb2.size
        by_cases hql : q < N
        · have t2 : decide ((q : Int) < (N : Int)) = true := by simp; omega
          have qz : (q : Int) < (N : Int) := by omega
          obtain ⟨c, hc⟩ : ∃ a, X[q]? = some a := ⟨_, List.getElem?_eq_getElem (by have := HXN.out; omega)⟩
          have d1 : wr.cell? ⟨bx, q, none⟩ = some (nv c) := (hbox.cell q).trans (hcs q c hc)
          simp only [nv] at d1
          have HX2 : Hid (∀ O3 : List Nat, O3.reverse = insB clM c O2.reverse → O3.reverse = sortB clM O.reverse (X.take (q + 1))) := Lib.hid fun O3 h => by
            rw [take_next hc, sortB_app, ← HO2.out, h]
            rfl
          obtain ⟨M, hM⟩ : ∃ M, O2.length = M := ⟨_, rfl⟩
          have HML := Lib.hid hM
          have hM2 : M ≤ 200002 := by omega
          have hB : w1.heap.size ≤ wr.heap.size := by omega
          have hown2' := hown2
          clear hc hM
          go_wp2_with (at_builtin; refine append_int_open wr rfl (.tmp 32) (.tmp 37) rfl w1.heap.size u5 O2 M HML.out rfl hown2 c _ rfl rfl (by omega) hB ?_; intro g cap cur w3 hBg hcur hcc hcm hcsz htake hg3 hv3; have hcm2 : cap ≤ 9223372036854775807 := (by unfold maxLen at hcm; omega); have HCM := Lib.hid hcm; have HT0 := Lib.hid htake; clear htake hcm)
          have hbx2 : bx < wr.heap.size := hbox.lt
          have hbox3 : Box w3 bx 3 cs := hbox.grown hg3 (fun e => hvb bx e.symm rfl)
          have hgb : g ≠ bx := by
            rcases hv3 with h | h
            · exact hvb g h
            · omega
          have hb4 : Below w1.heap.size w1 w3 := below_grown hb3 hg3 (Nat.le_refl _) fun g hg => (hown2.lt g hg).1
          have hb3s := hg3.size
          clear hg3 hv3 hown2' hown2 hvb
          go_loopw [9] (fun s wr3 => ∃ (j : Nat) (P Q : List Nat) (cu : Array Value), s = .int .i64 (j : Int) ∧ Hid (P.length = j) ∧ j ≤ M ∧ Hid ((P ++ c :: Q).length = M + 1) ∧ Box wr3 g 3 cu ∧ cu.size = cap ∧ Hid (cu.toList.take (M + 1) = (P ++ c :: Q).map nv) ∧
            Hid ((insB clM c P.reverse).reverse ++ Q = (insB clM c O2.reverse).reverse) ∧ Box wr3 bx 3 cs ∧ Below w1.heap.size w1 wr3 ∧ w3.heap.size ≤ wr3.heap.size) (fun s _ => (intOf s).toNat)
          case atStart =>
            exact ⟨M, O2, [], cur, by go_num, HML, Nat.le_refl _, Lib.hid (by rw [List.length_append, HML.out]; rfl), hcur, hcsz, HT0, Lib.hid (by rw [List.append_nil]), hbox3, hb4, Nat.le_refl _⟩
          case round =>
            obtain ⟨j, P, Q, cu, rfl, HPl, hj, HAl, hcu, hcz, HT, HI, hbox4, hb5, hws2⟩ := hrel
            have HCc := Lib.hid (fun W => refClassM_any c W)
            have HAM : Hid ((P ++ c :: Q).length = O.length + (q + 1)) := Lib.hid (by rw [HAl.out]; have := HML.out; omega)
            obtain ⟨kc, hkc⟩ : ∃ kc, clM c = kc := ⟨_, rfl⟩
            rw [hkc] at HCc
            by_cases hj0 : j = 0
            · have t3 : decide (0 < j) = false := by simp; omega
              have t3' : decide ((0 : Int) < (j : Int)) = false := by simp; omega
              have hP : P = [] := List.length_eq_zero_iff.1 (HPl.out.trans hj0)
              have HF3 : Hid ((P ++ c :: Q).reverse = insB clM c O2.reverse) := Lib.hid (by
                have h := HI.out
                rw [hP, List.reverse_nil, insB] at h
                have h2 := congrArg List.reverse h
                rw [List.reverse_reverse] at h2
                rw [← h2]
                rw [hP]
                simp)
              clear hj0 hP hkc
              go_wp2
              go_big_quiet (first | (go_at_call_of 149 c; exact Calls.quiet_of (HCc.out _)))
              go_wp2
              go_roundw
              case rel => exact ⟨q + 1, P ++ c :: Q, by omega, by go_num, HAM.out, Lib.hid (HX2.out _ HF3.out), own_M HAl.out hBg hcu hcc HCM.out hcz HT.out, hbox4, fun g' hg' => (by cases hg'; exact hgb), below_drewN hb5 _, (show w2.heap.size ≤ wr.heap.size by omega)⟩
              case measure => simp [intOf]; omega
            · have hPn : P ≠ [] := fun e => hj0 (by rw [← HPl.out, e]; rfl)
              obtain ⟨P', p, hP⟩ : ∃ P' p, P = P' ++ [p] := ⟨P.dropLast, P.getLast hPn, (List.dropLast_concat_getLast hPn).symm⟩
              subst hP
              obtain ⟨j0, rfl⟩ : ∃ j0, j = j0 + 1 := ⟨j - 1, by omega⟩
              have hPl0 : P'.length = j0 := by have := HPl.out; simp at this; omega
              have HP0 := Lib.hid hPl0
              have t3 : decide (0 < j0 + 1) = true := by simp
              have t3' : decide ((0 : Int) < ((j0 + 1 : Nat) : Int)) = true := by simp
              have e0 : ((j0 + 1 : Nat) : Int) - 1 = (j0 : Int) := by omega
              have z1 : ((j0 + 1 : Nat) : Int) < ((M + 1 : Nat) : Int) := by omega
              have z0 : (j0 : Int) < ((M + 1 : Nat) : Int) := by omega
              have dc : wr.cell? ⟨g, j0 + 1, none⟩ = some (.int .i64 (c : Int)) := (hcu.cell (j0 + 1)).trans (take_cell HT.out (by rw [List.append_assoc, List.getElem?_append_right (by omega), hPl0]; simp))
              have dp : wr.cell? ⟨g, j0, none⟩ = some (.int .i64 (p : Int)) := (hcu.cell j0).trans (take_cell HT.out (by rw [List.append_assoc, List.getElem?_append_right (by omega), hPl0]; simp))
              have HCp := Lib.hid (fun W => refClassM_any p W)
              obtain ⟨kp, hkp⟩ : ∃ kp, clM p = kp := ⟨_, rfl⟩
              rw [hkp] at HCp
              have hrev : (P' ++ [p]).reverse = p :: P'.reverse := by simp
              clear hPl0 hPn hj0
              by_cases hkc0 : 0 < kc
              · have t4 : decide (0 < kc) = true := by simpa using hkc0
                have t4' : decide ((0 : Int) < (kc : Int)) = true := by simp; omega
                by_cases hcp : kc < kp
                · have t5 : decide (kc < kp) = true := by simpa using hcp
                  have t5' : decide ((kc : Int) < (kp : Int)) = true := by simp; omega
                  have HI2 : Hid ((insB clM c P'.reverse).reverse ++ p :: Q = (insB clM c O2.reverse).reverse) := Lib.hid (by
                    have h := HI.out
                    rw [hrev, ins_pos (by omega) (by omega), List.reverse_cons, List.append_assoc] at h
                    exact h)
                  have HT2 : Hid (((cu.setIfInBounds j0 (nv c)).setIfInBounds (j0 + 1) (nv p)).toList.take (M + 1) = (P' ++ c :: p :: Q).map nv) := Lib.hid (by
                    have h := swap_take (n := M + 1) (P := P') (Q := Q) (p := p) (c := c) (cur := cu) (by rw [HT.out]; simp)
                    rw [HP0.out] at h
                    exact h)
                  have HA2 : Hid ((P' ++ c :: p :: Q).length = M + 1) := Lib.hid (by have h := HAl.out; simp at h ⊢; omega)
                  have f0 : wr.frozen? ⟨g, j0, none⟩ = false := hcu.free j0
                  have f1 : wr.frozen? ⟨g, j0 + 1, none⟩ = false := hcu.free (j0 + 1)
                  clear hkc hkp hrev
                  go_wp2
                  go_big_quiet (first | (go_at_call_of 149 c; exact Calls.quiet_of (HCc.out _)) | (go_at_call_of 149 p; exact Calls.quiet_of (HCp.out _)))
                  go_wp2
                  go_region
                  all_goals
                    have hBel := ((below_drewN (Below.refl g wr) (nq + 1)).setCell (p := ⟨g, j0, none⟩) (Nat.le_refl g) (.int .i64 (c : Int))).setCell (p := ⟨g, j0 + 1, none⟩) (Nat.le_refl g) (.int .i64 (p : Int))
                    have hBs := hBel.size
                    go_wp2
                    go_roundw
                    case rel =>
                      exact ⟨j0, P', p :: Q, _, by go_num, HP0, by omega, HA2, ((hcu.drewN _).put j0 (nv c)).put (j0 + 1) (nv p), by simp [hcz], HT2, HI2,
                        ((hbox4.drewN _).put_other ⟨g, j0, none⟩ _ (fun e => hgb e.symm)).put_other ⟨g, j0 + 1, none⟩ _ (fun e => hgb e.symm), hb5.trans (hBel.mono hBg), by omega⟩
                    case measure => simp [intOf]
                · have t5 : decide (kc < kp) = false := by simpa using hcp
                  have t5' : decide ((kc : Int) < (kp : Int)) = false := by simp; omega
                  have HF3 : Hid ((P' ++ [p] ++ c :: Q).reverse = insB clM c O2.reverse) := Lib.hid (by
                    have h := HI.out
                    rw [hrev, ins_neg (fun h => hcp (by omega))] at h
                    have h2 := congrArg List.reverse h
                    rw [List.reverse_reverse] at h2
                    rw [← h2]
                    simp)
                  clear hkc hkp hrev
                  go_wp2
                  go_big_quiet (first | (go_at_call_of 149 c; exact Calls.quiet_of (HCc.out _)) | (go_at_call_of 149 p; exact Calls.quiet_of (HCp.out _)))
                  go_wp2
                  go_roundw
                  case rel => exact ⟨q + 1, P' ++ [p] ++ c :: Q, by omega, by go_num, HAM.out, Lib.hid (HX2.out _ HF3.out), own_M HAl.out hBg hcu hcc HCM.out hcz HT.out, hbox4, fun g' hg' => (by cases hg'; exact hgb), below_drewN hb5 _, (show w2.heap.size ≤ wr.heap.size by omega)⟩
                  case measure => simp [intOf]; omega
              · have t4 : decide (0 < kc) = false := by simp; omega
                have t4' : decide ((0 : Int) < (kc : Int)) = false := by simp; omega
                have HF3 : Hid ((P' ++ [p] ++ c :: Q).reverse = insB clM c O2.reverse) := Lib.hid (by
                  have h := HI.out
                  rw [hrev, ins_neg (fun h => hkc0 (by omega))] at h
                  have h2 := congrArg List.reverse h
                  rw [List.reverse_reverse] at h2
                  rw [← h2]
                  simp)
                clear hkc hkp hrev
                go_wp2
                go_big_quiet (first | (go_at_call_of 149 c; exact Calls.quiet_of (HCc.out _)) | (go_at_call_of 149 p; exact Calls.quiet_of (HCp.out _)))
                go_wp2
                go_roundw
                case rel => exact ⟨q + 1, P' ++ [p] ++ c :: Q, by omega, by go_num, HAM.out, Lib.hid (HX2.out _ HF3.out), own_M HAl.out hBg hcu hcc HCM.out hcz HT.out, hbox4, fun g' hg' => (by cases hg'; exact hgb), below_drewN hb5 _, (show w2.heap.size ≤ wr.heap.size by omega)⟩
                case measure => simp [intOf]; omega
        · obtain rfl : q = N := by omega
          have HO3 : Hid (O2.reverse = sortB clM [] ((l.take (k + 1)).flatMap wholeR)) := Lib.hid (HX.out O2 (by rw [HO2.out, List.take_of_length_le (by rw [HXN.out]; omega)]))
          go_wp2
          go_roundw
          case rel => exact ⟨k + 1, O2, by omega, by go_num, by omega, HO3, hown2, hb3⟩
          case measure => simp [intOf]; omega
    · obtain rfl : k = n := by omega
      have HE : Hid (F = O) := Lib.hid (by
        rw [← HF.out, HL.out]
        unfold dcF
        have h := HO.out
        rw [List.take_of_length_le (by rw [HLn.out]; omega)] at h
        rw [← h, List.reverse_reverse])
      go_wp2
      go_ret
      rw [HE.out]
      exact ⟨_, rfl, own_less hb1.size hown, below_next hb1 hb⟩

end Go.Proofs.YtbnchnbblchmnaaGreatDoor

namespace Go.Proofs.YtbnchnbblchmnaaGreatDoor
open Go.RowKit

/-- The characters of an encoded string; none of others. -/
def nL (s : List UInt8) : List Nat := (decR s).getD []
def nD (s : List UInt8) : List UInt8 := encL (dcF (nL s))
def nC (s : List UInt8) : List UInt8 := encL (compF (dcF (nL s)))
def nStrip (s : List UInt8) : List UInt8 := encL ((dcF (nL s)).filter fun c => !isM c)
def nMarks (s : List UInt8) : Nat := ((dcF (nL s)).filter isM).length
def nIs (s : List UInt8) : Bool := (decR s).isSome && decide (nC s = s)
def nEq (a b : List UInt8) : Bool := (decR a).isSome && (decR b).isSome && decide (nD a = nD b)
theorem ok_of_has {c : Nat} (h : hasN c = true) : okC c := by
  rw [← hasN_eq] at h
  have := has_range h
  exact ⟨by omega, has_kind.1 h⟩
theorem has_of_ok {c : Nat} (h : okC c) : hasN c = true := by rw [← hasN_eq]; exact ok_has h
theorem nL_has (s : List UInt8) : ∀ c ∈ nL s, hasN c = true := by
  unfold nL
  cases h : decR s with
  | none => simp
  | some l => exact fun c hc => has_of_ok ((enc_dec h).2 c hc)
theorem nL_len (s : List UInt8) : (nL s).length ≤ s.length := by
  unfold nL
  cases h : decR s with
  | none => simp
  | some l => exact dec_len h
theorem dcF_len (l : List Nat) : (dcF l).length ≤ 2 * l.length := by
  unfold dcF
  rw [List.length_reverse, sort_len, List.length_nil, Nat.add_zero]
  induction l with
  | nil => simp
  | cons c l ih =>
    have := whole_len c
    rw [List.flatMap_cons, List.length_append, List.length_cons]
    omega
theorem dcF_ok (s : List UInt8) : ∀ c ∈ dcF (nL s), okC c := fun c hc => ok_of_has (dcF_has (nL_has s) c hc)

theorem encode_own (base : Nat) (v : Value) (l : List Nat) (w : World) (hown : w.ownsRow base 3 1 v l.length (l.map nv)) (hok : ∀ c ∈ l, okC c) (hl : l.length ≤ 1000000) :
    Calls Tryz.prog 55 #[v] w fun e w' => e = .returned (.tuple #[.string (str (encL l)), .bool true]) ∧ Below w.heap.size w w' := by
  have hA := Arr.of_own hown
  obtain ⟨A, c, rfl⟩ := hA.form
  refine (refEncode_any A _ c _ w hA.int (by omega)).mono ?_
  rintro e w' ⟨h1, h2⟩
  rw [encR_nats hok] at h1
  exact ⟨h1, h2⟩

set_option maxRecDepth 20000 in
set_option maxHeartbeats 1600000 in
theorem refDecompose_any (s : List UInt8) (w : World) (hlen : s.length ≤ 100000) :
    Calls Tryz.prog 82 #[.string (str s)] w fun e w' => e = .returned (.string (str (nD s))) ∧ Below w.heap.size w w' := by
  have HD := Lib.hid (refDecomposed_any s w hlen)
  obtain ⟨R, hR⟩ : ∃ R, nD s = R := ⟨_, rfl⟩
  have HR : Hid (encL (dcF (nL s)) = R) := Lib.hid hR
  have HOK := Lib.hid (dcF_ok s)
  have hl1 := dcF_len (nL s)
  have hl2 := nL_len s
  have HL : Hid ((dcF (nL s)).length ≤ 1000000) := Lib.hid (by omega)
  rw [hR]
  clear hR hl1 hl2
  go_enter Tryz.func82, Tryz.ntmps82
  go_wp2_with fail
  refine HD.out.mono ?_
  rintro e w1 ⟨v, rfl, hown, hb1⟩
  have HE := Lib.hid (encode_own _ v _ w1 hown HOK.out HL.out)
  clear hown
  go_wp2_with fail
  refine HE.out.mono ?_
  rintro e w2 ⟨rfl, hb2⟩
  have e1 := HR.out
  unfold nL at e1
  rw [show encL (dcF ((decR s).getD [])) = R from e1]
  go_wp2
  go_ret
  exact ⟨rfl, below_next hb1 hb2⟩

theorem str_beq (a b : List UInt8) : ((str a).toList == (str b).toList) = decide (a = b) := by
  rw [str_toList, str_toList]
  by_cases h : a = b
  · rw [h, decide_eq_true rfl]; simp
  · rw [decide_eq_false h]; simpa using h

theorem isM_zero {c : Nat} : isM c = false ↔ clM c = 0 := by
  unfold isM
  rw [← Bool.not_eq_true, Nat.blt_eq]
  omega
theorem isM_pos {c : Nat} : isM c = true ↔ 0 < clM c := by
  unfold isM
  rw [Nat.blt_eq]
theorem filter_next {p : Nat → Bool} {l : List Nat} {k c : Nat} (h : l[k]? = some c) : (l.take (k + 1)).filter p = (l.take k).filter p ++ if p c = true then [c] else [] := by
  rw [take_next h, List.filter_append]
  by_cases hp : p c = true
  · rw [if_pos hp]; simp [hp]
  · rw [if_neg hp]; simp [hp]

end Go.Proofs.YtbnchnbblchmnaaGreatDoor

namespace Go.Proofs.YtbnchnbblchmnaaGreatDoor
open Go.RowKit

theorem drop_cons {l : List Nat} {i y : Nat} (h : l[i]? = some y) : l.drop i = y :: l.drop (i + 1) := by
  obtain ⟨h1, h2⟩ := List.getElem?_eq_some_iff.1 h
  rw [List.drop_eq_getElem_cons h1, h2]
theorem get_of_drop {l r : List Nat} {i y : Nat} (h : l.drop i = y :: r) : l[i]? = some y := by
  have h2 := congrArg List.head? h
  rw [List.head?_drop] at h2
  exact h2
theorem compF_mark {y : Nat} {r : List Nat} (h : isM y = true) : compF (y :: r) = y :: compF r := by rw [compF, if_pos h]
theorem compF_base {y : Nat} {r : List Nat} (h : ¬ isM y = true) : compF (y :: r) = (runF y [] (r.takeWhile isM)).1 :: ((runF y [] (r.takeWhile isM)).2 ++ compF (r.dropWhile isM)) := by rw [compF, if_neg h]
theorem run_yes {c y : Nat} {left t : List Nat} (h : compR c y ≠ 0) (h2 : (left.any fun k => Nat.beq (clM k) (clM y)) = false) : runF c left (y :: t) = runF (compR c y) left t := by rw [runF, if_pos ⟨h, h2⟩]
theorem run_no {c y : Nat} {left t : List Nat} (h : ¬ (compR c y ≠ 0 ∧ (left.any fun k => Nat.beq (clM k) (clM y)) = false)) : runF c left (y :: t) = runF c (left ++ [y]) t := by rw [runF, if_neg h]
theorem any_next {p : Nat → Bool} {l : List Nat} {k c : Nat} (h : l[k]? = some c) : (l.take (k + 1)).any p = ((l.take k).any p || p c) := by
  rw [take_next h, List.any_append]
  simp
theorem compF_len : ∀ (n : Nat) (d : List Nat), d.length ≤ n → (compF d).length ≤ d.length
  | _, [], _ => by rw [compF]; simp
  | 0, _ :: _, hn => by simp at hn
  | n + 1, c :: r, hn => by
    rw [compF]
    split
    · have := compF_len n r (by simp at hn; omega)
      simp
      omega
    · have hlen := (List.dropWhile_suffix isM (l := r)).length_le
      have h1 := compF_len n (r.dropWhile isM) (by simp at hn; omega)
      have h2 : (r.takeWhile isM).length + (r.dropWhile isM).length = r.length := by
        rw [← List.length_append, List.takeWhile_append_dropWhile]
      have h3 : (runF c [] (r.takeWhile isM)).2.length ≤ (r.takeWhile isM).length := by
        rcases run_cases c (r.takeWhile isM) [] with e | ⟨A, m, B, e1, e2, e3, e4⟩
        · rw [e]; simp
        · rw [e4, e1]; simp
      simp
      omega

end Go.Proofs.YtbnchnbblchmnaaGreatDoor

namespace Go.Proofs.YtbnchnbblchmnaaGreatDoor
open Go.RowKit

theorem nL_enc {l : List Nat} (h : ∀ c ∈ l, okC c) : nL (encL l) = l := by unfold nL; rw [dec_enc l h]; rfl
theorem enc_some {l : List Nat} (h : ∀ c ∈ l, okC c) : decR (encL l) = some l := dec_enc l h
theorem compF_ok {d : List Nat} (h : ∀ c ∈ d, hasN c = true) : ∀ c ∈ compF d, okC c := fun c hc => ok_of_has (compF_has _ d (Nat.le_refl _) h c hc)
theorem dc_has (s : List UInt8) : ∀ c ∈ dcF (nL s), hasN c = true := dcF_has (nL_has s)
theorem nL_nD (s : List UInt8) : nL (nD s) = dcF (nL s) := nL_enc (dcF_ok s)
theorem nL_nC (s : List UInt8) : nL (nC s) = compF (dcF (nL s)) := nL_enc (compF_ok (dc_has s))
theorem nD_nD (s : List UInt8) : nD (nD s) = nD s := by
  show encL (dcF (nL (nD s))) = _
  rw [nL_nD, dcF_dcF]
  rfl
theorem nC_nD (s : List UInt8) : nC (nD s) = nC s := by
  show encL (compF (dcF (nL (nD s)))) = _
  rw [nL_nD, dcF_dcF]
  rfl
theorem nD_nC (s : List UInt8) : nD (nC s) = nD s := by
  show encL (dcF (nL (nC s))) = _
  rw [nL_nC, dcF_compF (plain_dcF _)]
  rfl
theorem nC_nC (s : List UInt8) : nC (nC s) = nC s := by
  show encL (compF (dcF (nL (nC s)))) = _
  rw [nL_nC, dcF_compF (plain_dcF _)]
  rfl
theorem nIs_nC (s : List UInt8) : nIs (nC s) = true := by
  unfold nIs
  have h : decR (nC s) = some (compF (dcF (nL s))) := enc_some (compF_ok (dc_has s))
  rw [h, nC_nC, decide_eq_true rfl]
  rfl
theorem nD_inj {a b : List UInt8} (h : nD a = nD b) : dcF (nL a) = dcF (nL b) := by rw [← nL_nD, ← nL_nD, h]
theorem nEq_nC {a b : List UInt8} (ha : (decR a).isSome = true) (hb : (decR b).isSome = true) : nEq a b = decide (nC a = nC b) := by
  unfold nEq
  rw [ha, hb, Bool.true_and, Bool.true_and]
  by_cases h : nD a = nD b
  · rw [decide_eq_true h, decide_eq_true]
    show encL (compF (dcF (nL a))) = encL (compF (dcF (nL b)))
    rw [nD_inj h]
  · rw [decide_eq_false h, decide_eq_false]
    intro h2
    exact h (by rw [← nD_nC, h2, nD_nC])

/-! Lengths. -/
theorem nD_len (s : List UInt8) : (nD s).length ≤ 6 * s.length := by
  unfold nD
  have h1 := encL_len (dcF (nL s))
  have h2 := dcF_len (nL s)
  have h3 := nL_len s
  omega
theorem nC_len (s : List UInt8) : (nC s).length ≤ 6 * s.length := by
  unfold nC
  have h1 := encL_len (compF (dcF (nL s)))
  have h0 := compF_len _ (dcF (nL s)) (Nat.le_refl _)
  have h2 := dcF_len (nL s)
  have h3 := nL_len s
  omega
theorem nStrip_len (s : List UInt8) : (nStrip s).length ≤ 6 * s.length := by
  unfold nStrip
  have h1 := encL_len ((dcF (nL s)).filter fun c => !isM c)
  have h0 := List.length_filter_le (fun c => !isM c) (dcF (nL s))
  have h2 := dcF_len (nL s)
  have h3 := nL_len s
  omega

/-! Strings together. -/
theorem nL_app {s t : List UInt8} (hs : (decR s).isSome = true) (ht : (decR t).isSome = true) : nL (s ++ t) = nL s ++ nL t := by
  unfold nL
  cases h1 : decR s with
  | none => rw [h1] at hs; cases hs
  | some l =>
    cases h2 : decR t with
    | none => rw [h2] at ht; cases ht
    | some m => rw [dec_app h1, h2]; rfl
theorem join_dc {s t : List UInt8} (hs : (decR s).isSome = true) (ht : (decR t).isSome = true) (h : ∀ c, (nL t).head? = some c → clM c = 0) : dcF (nL (s ++ t)) = dcF (nL s) ++ dcF (nL t) := by rw [nL_app hs ht, dcF_join _ _ h]
theorem nD_join {s t : List UInt8} (hs : (decR s).isSome = true) (ht : (decR t).isSome = true) (h : ∀ c, (nL t).head? = some c → clM c = 0) : nD (s ++ t) = nD s ++ nD t := by
  unfold nD
  rw [join_dc hs ht h, encL_app]
theorem nStrip_join {s t : List UInt8} (hs : (decR s).isSome = true) (ht : (decR t).isSome = true) (h : ∀ c, (nL t).head? = some c → clM c = 0) : nStrip (s ++ t) = nStrip s ++ nStrip t := by
  unfold nStrip
  rw [join_dc hs ht h, List.filter_append, encL_app]
theorem nMarks_join {s t : List UInt8} (hs : (decR s).isSome = true) (ht : (decR t).isSome = true) (h : ∀ c, (nL t).head? = some c → clM c = 0) : nMarks (s ++ t) = nMarks s + nMarks t := by
  unfold nMarks
  rw [join_dc hs ht h, List.filter_append, List.length_append]

/-! Strings without marks. -/
theorem srt_zero : ∀ (l : List Nat), (∀ c ∈ l, clM c = 0) → Srt clM l
  | [], _ => trivial
  | [_], _ => trivial
  | y :: x :: r, h => ⟨fun hy => by have := h y (by simp); omega, srt_zero (x :: r) fun c hc => h c (by simp [hc])⟩
theorem strip_zero (s : List UInt8) : ∀ c ∈ (dcF (nL s)).filter (fun c => !isM c), clM c = 0 := by
  intro c hc
  have h := (List.mem_filter.1 hc).2
  rw [Bool.not_eq_true'] at h
  exact isM_zero.1 h
theorem strip_ok (s : List UInt8) : ∀ c ∈ (dcF (nL s)).filter (fun c => !isM c), okC c := fun c hc => dcF_ok s c (List.mem_filter.1 hc).1
theorem nL_strip (s : List UInt8) : nL (nStrip s) = (dcF (nL s)).filter fun c => !isM c := nL_enc (strip_ok s)
theorem dc_strip (s : List UInt8) : dcF (nL (nStrip s)) = (dcF (nL s)).filter fun c => !isM c := by
  rw [nL_strip]
  refine dcF_plain ⟨fun y hy => (plain_dcF (nL s)).1 y (List.mem_filter.1 hy).1, srt_zero _ fun c hc => strip_zero s c (List.mem_reverse.1 hc)⟩
theorem nD_strip (s : List UInt8) : nD (nStrip s) = nStrip s := by
  show encL (dcF (nL (nStrip s))) = _
  rw [dc_strip]
  rfl
theorem filter_same {p : Nat → Bool} {l : List Nat} (h : ∀ c ∈ l, p c = true) : l.filter p = l := List.filter_eq_self.2 h
theorem nStrip_strip (s : List UInt8) : nStrip (nStrip s) = nStrip s := by
  show encL ((dcF (nL (nStrip s))).filter fun c => !isM c) = _
  rw [dc_strip, filter_same (fun c hc => (List.mem_filter.1 hc).2)]
  rfl
theorem nMarks_strip (s : List UInt8) : nMarks (nStrip s) = 0 := by
  unfold nMarks
  rw [dc_strip, List.length_eq_zero_iff, List.filter_eq_nil_iff]
  intro c hc
  have := isM_zero.2 (strip_zero s c hc)
  rw [this]
  decide
theorem nStrip_eq {s t : List UInt8} (h : nEq s t = true) : nStrip t = nStrip s := by
  unfold nEq at h
  simp only [Bool.and_eq_true, decide_eq_true_eq] at h
  unfold nStrip
  rw [nD_inj h.2]

/-! The order of marks. -/
theorem srt_at : ∀ (R : List Nat) (i x y : Nat), Srt clM R → R[i]? = some y → R[i + 1]? = some x → 0 < clM y → clM x ≤ clM y
  | [], i, x, y, _, h, _, _ => by simp at h
  | [_], i, x, y, _, _, h, _ => by simp at h
  | a :: b :: r, 0, x, y, hs, h1, h2, h => by
    simp at h1 h2
    subst h1 h2
    exact hs.1 h
  | a :: b :: r, i + 1, x, y, hs, h1, h2, h => srt_at (b :: r) i x y hs.2 (by simpa using h1) (by simpa using h2) h
theorem dc_order {l : List Nat} {i x y : Nat} (h1 : (dcF l)[i]? = some x) (h2 : (dcF l)[i + 1]? = some y) (h : 0 < clM y) : clM x ≤ clM y := by
  obtain ⟨hl2, _⟩ := List.getElem?_eq_some_iff.1 h2
  have hs := (plain_dcF l).2
  refine srt_at _ ((dcF l).length - 2 - i) x y hs ?_ ?_ h
  · rw [List.getElem?_reverse (by omega), ← h2]
    congr 1
    omega
  · rw [List.getElem?_reverse (by omega), ← h1]
    congr 1
    omega
theorem dc_swap {P Q : List Nat} {x y : Nat} (hx : 0 < clM x) (hy : 0 < clM y) (hxy : clM x ≠ clM y) : dcF (P ++ y :: x :: Q) = dcF (P ++ x :: y :: Q) := by
  unfold dcF
  rw [List.flatMap_append, List.flatMap_append, List.flatMap_cons, List.flatMap_cons, List.flatMap_cons, List.flatMap_cons, whole_mark hx, whole_mark hy]
  simp only [List.singleton_append]
  rw [sortB_app clM [] (P.flatMap wholeR), sortB_app clM [] (P.flatMap wholeR)]
  refine congrArg List.reverse ?_
  rw [sortB_cons, sortB_cons, sortB_cons, sortB_cons, ins_comm clM hx hy hxy]

/-! Single characters. -/
def scrN (o : Nat) : List Nat → Nat
  | [] => o
  | c :: l => if Nat.beq (clsF c).1 0 = true then scrN o l else if (!Nat.beq o 0 && !Nat.beq (clsF c).1 o) = true then 4 else scrN (clsF c).1 l
theorem scrF_eq : ∀ (l : List Nat) (o : Nat), scrF o l = scrN o l
  | [], _ => rfl
  | c :: l, o => by
    rw [scrF, scrN, clsF_eq]
    by_cases h0 : (clsF c).1 = 0
    · rw [if_pos h0, if_pos (show Nat.beq (clsF c).1 0 = true by rw [Nat.beq_eq]; exact h0), scrF_eq l o]
    · rw [if_neg h0, if_neg (show ¬ Nat.beq (clsF c).1 0 = true by rw [Nat.beq_eq]; exact h0)]
      by_cases h1 : o ≠ 0 ∧ (clsF c).1 ≠ o
      · rw [if_pos h1, if_pos]
        rw [Bool.and_eq_true, Bool.not_eq_true', Bool.not_eq_true']
        exact ⟨beq_false h1.1, beq_false h1.2⟩
      · rw [if_neg h1, if_neg, scrF_eq l _]
        rw [Bool.and_eq_true, Bool.not_eq_true', Bool.not_eq_true']
        rintro ⟨h2, h3⟩
        refine h1 ⟨fun e => ?_, fun e => ?_⟩
        · rw [e] at h2; cases h2
        · rw [e, beq_true] at h3; cases h3
theorem char_scripts : (charL.all fun c => Nat.beq (scrN 0 (wholeR c)) (scrN 0 [c])) = true := by kernel_rfl
theorem pairs_back : (pairL.all fun x => Nat.beq (compR x.2.1 x.2.2) x.1) = true := by kernel_rfl
theorem dcF_one (c : Nat) : dcF [c] = wholeR c := by
  unfold dcF
  rw [List.flatMap_cons, List.flatMap_nil, List.append_nil]
  have key : ∀ l : List Nat, Srt clM l.reverse → (sortB clM [] l).reverse = l := fun l h => by
    rw [sort_sorted clM l [] (by rw [List.append_nil]; exact h)]
    simp
  refine key _ ?_
  rcases whole_cases c with e | ⟨b, m, hp, e⟩ | ⟨l, e, hl⟩
  · rw [e]; trivial
  · rw [e]
    exact ⟨fun _ => by have := (pair_of hp).cb; omega, trivial⟩
  · rw [e]
    exact srt_zero _ fun y hy => (hl y (List.mem_reverse.1 hy)).2.2
theorem letter_script {c : Nat} (hc : hasN c = true) : scriptR (nD (encL [c])) = scriptR (encL [c]) := by
  have h1 : ∀ x ∈ [c], okC x := fun x hx => by rw [List.mem_singleton] at hx; rw [hx]; exact ok_of_has hc
  have e1 : nD (encL [c]) = encL (wholeR c) := by unfold nD; rw [nL_enc h1, dcF_one]
  have h2 : ∀ x ∈ wholeR c, okC x := fun x hx => ok_of_has (whole_has hc hx)
  rw [e1]
  unfold scriptR
  rw [enc_some h1, enc_some h2]
  show scrF 0 (wholeR c) = scrF 0 [c]
  rw [scrF_eq, scrF_eq]
  have := List.all_eq_true.1 char_scripts c ((char_mem c).2 hc)
  rwa [Nat.beq_eq] at this
/-- What a character is replaced by: one character, no marks, or a letter and a mark that are composed to it again. -/
theorem letter_cases {c : Nat} (hc : hasN c = true) : (wholeR c).length = 1 ∨ nMarks (nD (encL [c])) = 0 ∨ ((wholeR c).length = 2 ∧ nC (nD (encL [c])) = encL [c]) := by
  have h1 : ∀ x ∈ [c], okC x := fun x hx => by rw [List.mem_singleton] at hx; rw [hx]; exact ok_of_has hc
  have e1 : dcF (nL (encL [c])) = wholeR c := by rw [nL_enc h1, dcF_one]
  rcases whole_cases c with e | ⟨b, m, hp, e⟩ | ⟨l, e, hl⟩
  · exact .inl (by rw [e]; rfl)
  · refine .inr (.inr ⟨by rw [e]; rfl, ?_⟩)
    rw [nC_nD]
    show encL (compF (dcF (nL (encL [c])))) = _
    rw [e1, e]
    have hpair := pair_of hp
    have hback : compR b m = c := by
      have := List.all_eq_true.1 pairs_back _ hp
      rwa [Nat.beq_eq] at this
    have hm : isM m = true := isM_pos.2 hpair.cm
    have hb : ¬ isM b = true := fun h => by have := isM_pos.1 h; have := hpair.cb; omega
    have hx : hasN c = true := hpair.hx
    have hne : compR b m ≠ 0 := by
      rw [hback]
      intro h0
      rw [h0] at hx
      exact absurd hx (by decide)
    rw [compF_base hb, List.takeWhile_cons, if_pos hm, List.takeWhile_nil, List.dropWhile_cons, if_pos hm, List.dropWhile_nil, run_yes hne (by rfl), runF, compF, hback]
    rfl
  · refine .inr (.inl ?_)
    unfold nMarks
    rw [nL_nD, e1, ← dcF_one, dcF_dcF, dcF_one, List.length_eq_zero_iff, List.filter_eq_nil_iff]
    intro y hy
    rw [e] at hy
    rw [isM_zero.2 (hl y hy).2.2]
    decide

end Go.Proofs.YtbnchnbblchmnaaGreatDoor
