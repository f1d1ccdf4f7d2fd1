/-
  The reference's decomposed.
  The reference's Decompose, encoded, Equal, Strip, Marks.
  The reference's Compose and Is.
-/
import Derived.Test.YtafnjbmeponobaaGreatDoorPkAF
import Derived.Deep.RegionWith
namespace Go.Proofs.YtafnjbmeponobaaGreatDoor
open Go.RowKit

theorem ins_pos {c p : Nat} {R : List Nat} (h : 0 < clM c) (h2 : clM c < clM p) : insB clM c (p :: R) = p :: insB clM c R := by rw [insB, if_pos ⟨h, h2⟩]
theorem ins_neg {c p : Nat} {R : List Nat} (h : ¬ (0 < clM c ∧ clM c < clM p)) : insB clM c (p :: R) = c :: p :: R := by rw [insB, if_neg h]
theorem decL_some {s : List UInt8} {l : List Nat} (h : decR s = some l) : (decR s).getD [] = l := by rw [h]; rfl

theorem own_M {w : World} {B g n cap : Nat} {e : TypeId} {cur : Array Value} {xs : List Nat} (hl : xs.length = n) (hb : B ≤ g) (hg : Box w g e cur) (hc : n ≤ cap) (hm : cap ≤ maxLen) (hs : cur.size = cap) (ht : cur.toList.take n = xs.map nv) :
    w.ownsRow B e 1 (.slice (some ⟨g, 0, none⟩) n cap) xs.length (xs.map nv) := by
  rw [hl]
  exact own_shut (by rw [List.length_map]; exact hl) hb hg hc hm hs ht

set_option maxRecDepth 100000 in
set_option maxHeartbeats 6400000 in
theorem refDecomposed_any (s : List UInt8) (w : World) (hlen : s.length ≤ 100000) :
    Calls Tryz.prog 55 #[.string (str s)] w fun e w' => ∃ v, e = .returned v ∧ w'.ownsRow w.heap.size 3 1 v (dcF ((decR s).getD [])).length ((dcF ((decR s).getD [])).map nv) ∧ Below w.heap.size w w' := by
  have HD := Lib.hid (refDecode_any s w (by omega))
  obtain ⟨F, hF⟩ : ∃ F, dcF ((decR s).getD []) = F := ⟨_, rfl⟩
  rw [hF]
  have HF := Lib.hid hF
  clear hF
  go_enter Tryz.func55, Tryz.ntmps55
  go_wp2_with fail
  refine HD.out.mono ?_
  rintro e w1 ⟨hd, hb1⟩
  obtain ⟨A, n, cp, b, rfl, hcase⟩ := hd.form
  obtain ⟨l, HL, hA, hok⟩ : ∃ l, Hid ((decR s).getD [] = l) ∧ Arr nv w1 w1.heap.size (.slice A n cp) l ∧ ∀ c ∈ l, c < 65536 := by
    rcases hcase with ⟨_, l, h1, h2, h3, _⟩ | ⟨_, h1, rfl, h2, h3⟩
    · exact ⟨l, Lib.hid (decL_some h1), h3, fun c hc => ((enc_dec h1).2 c hc).1⟩
    · subst h2 h3
      exact ⟨[], Lib.hid (by rw [h1]; rfl), Arr.nil_ _ _, by simp⟩
  have hln := hA.len
  have hn : n ≤ 100000 := by
    rcases hcase with ⟨_, l, h1, h2, _⟩ | ⟨_, h1, _, h2, _⟩
    · have := dec_len h1; omega
    · omega
  have HLn := Lib.hid hln
  have HOK := Lib.hid hok
  clear hd hcase hln hok
  go_wp2
  go_loopw [5, 6] (fun v i wr => ∃ (k : Nat) (O : List Nat), k ≤ n ∧ i = .int .i64 (k : Int) ∧ O.length ≤ 2 * k ∧ Hid (O.reverse = sortB clM [] ((l.take k).flatMap wholeR)) ∧ wr.ownsRow w1.heap.size 3 1 v O.length (O.map nv) ∧ Below w1.heap.size w1 wr) (fun _ i _ => n - (intOf i).toNat)
  case atStart => exact ⟨0, [], by omega, rfl, by simp, Lib.hid rfl, World.ownsRow_nil _ _ _ _, Below.refl _ _⟩
  case round =>
    obtain ⟨k, O, hk, rfl, hOl, HO, hown, hb⟩ := hrel
    have hbs := hb.size
    by_cases hlt : k < n
    · have t1 : decide ((k : Int) < (n : Int)) = true := by simp; omega
      obtain ⟨b0, o0, rfl, hB0, hc0⟩ := hA.some_ (by omega)
      obtain ⟨x, hx⟩ : ∃ a, l[k]? = some a := ⟨_, List.getElem?_eq_getElem (by have := HLn.out; omega)⟩
      have d0 := (hb.cell (p := ⟨b0, o0 + k, none⟩) hB0).trans (hc0 k x hx)
      simp only [nv] at d0
      have kz : (k : Int) < (n : Int) := by omega
      have HW := Lib.hid (refWhole_any x wr (HOK.out x (List.mem_of_getElem? hx)))
      obtain ⟨X, hX⟩ : ∃ X, wholeR x = X := ⟨_, rfl⟩
      have hX2 : X.length ≤ 2 := by rw [← hX]; exact whole_len x
      have HX : Hid (∀ O2 : List Nat, O2.reverse = sortB clM O.reverse X → O2.reverse = sortB clM [] ((l.take (k + 1)).flatMap wholeR)) := Lib.hid fun O2 h => by
        rw [take_next hx, List.flatMap_append, sortB_app, ← HO.out, h, ← hX]
        simp
      rw [hX] at HW
      clear hc0 hx hX
      go_wp2_with fail
      refine HW.out.mono ?_
      rintro e w2 ⟨bx, cx, cs, rfl, hbx, hbox, hcs, hb2⟩
      have hown2 := own_keep_below hown hb2
      have hvb : ∀ g, u5.ownBlock = some g → g ≠ bx := fun g hg => by have := (hown.lt g hg).2; omega
      obtain ⟨N, hN⟩ : ∃ N, X.length = N := ⟨_, rfl⟩
      rw [hN] at hX2 ⊢
      have HXN := Lib.hid hN
      clear hN hown
      go_wp2
      go_loopw [5, 8] (fun v i wr2 => ∃ (q : Nat) (O2 : List Nat), q ≤ N ∧ i = .int .i64 (q : Int) ∧ O2.length = O.length + q ∧ Hid (O2.reverse = sortB clM O.reverse (X.take q)) ∧ wr2.ownsRow w1.heap.size 3 1 v O2.length (O2.map nv) ∧ Box wr2 bx 3 cs ∧ (∀ g, v.ownBlock = some g → g ≠ bx) ∧ Below w1.heap.size w1 wr2 ∧ w2.heap.size ≤ wr2.heap.size) (fun _ i _ => N - (intOf i).toNat)
      case atStart => exact ⟨0, O, by omega, rfl, rfl, Lib.hid rfl, hown2, hbox, hvb, below_next hb hb2, Nat.le_refl _⟩
      case round =>
        obtain ⟨q, O2, hq, rfl, hO2l, HO2, hown2, hbox, hvb, hb3, hws⟩ := hrel
        have hb2s := hb2.size
        by_cases hql : q < N
        · have t2 : decide ((q : Int) < (N : Int)) = true := by simp; omega
          have qz : (q : Int) < (N : Int) := by omega
          obtain ⟨c, hc⟩ : ∃ a, X[q]? = some a := ⟨_, List.getElem?_eq_getElem (by have := HXN.out; omega)⟩
          have d1 : wr.cell? ⟨bx, q, none⟩ = some (nv c) := (hbox.cell q).trans (hcs q c hc)
          simp only [nv] at d1
          have HX2 : Hid (∀ O3 : List Nat, O3.reverse = insB clM c O2.reverse → O3.reverse = sortB clM O.reverse (X.take (q + 1))) := Lib.hid fun O3 h => by
            rw [take_next hc, sortB_app, ← HO2.out, h]
            rfl
          obtain ⟨M, hM⟩ : ∃ M, O2.length = M := ⟨_, rfl⟩
          have HML := Lib.hid hM
          have hM2 : M ≤ 200002 := by omega
          have hB : w1.heap.size ≤ wr.heap.size := by omega
          have hown2' := hown2
          clear hc hM
          go_wp2_with (at_builtin; refine append_int_open wr rfl (.tmp 32) (.tmp 37) rfl w1.heap.size u5 O2 M HML.out rfl hown2 c _ rfl rfl (by omega) hB ?_; intro g cap cur w3 hBg hcur hcc hcm hcsz htake hg3 hv3; have hcm2 : cap ≤ 9223372036854775807 := (by unfold maxLen at hcm; omega); have HCM := Lib.hid hcm; have HT0 := Lib.hid htake; clear htake hcm)
          have hbx2 : bx < wr.heap.size := hbox.lt
          have hbox3 : Box w3 bx 3 cs := hbox.grown hg3 (fun e => hvb bx e.symm rfl)
          have hgb : g ≠ bx := by
            rcases hv3 with h | h
            · exact hvb g h
            · omega
          have hb4 : Below w1.heap.size w1 w3 := below_grown hb3 hg3 (Nat.le_refl _) fun g hg => (hown2.lt g hg).1
          have hb3s := hg3.size
          clear hg3 hv3 hown2' hown2 hvb
          go_loopw [9] (fun s wr3 => ∃ (j : Nat) (P Q : List Nat) (cu : Array Value), s = .int .i64 (j : Int) ∧ Hid (P.length = j) ∧ j ≤ M ∧ Hid ((P ++ c :: Q).length = M + 1) ∧ Box wr3 g 3 cu ∧ cu.size = cap ∧ Hid (cu.toList.take (M + 1) = (P ++ c :: Q).map nv) ∧
            Hid ((insB clM c P.reverse).reverse ++ Q = (insB clM c O2.reverse).reverse) ∧ Box wr3 bx 3 cs ∧ Below w1.heap.size w1 wr3 ∧ w3.heap.size ≤ wr3.heap.size) (fun s _ => (intOf s).toNat)
          case atStart =>
            exact ⟨M, O2, [], cur, by go_num, HML, Nat.le_refl _, Lib.hid (by rw [List.length_append, HML.out]; rfl), hcur, hcsz, HT0, Lib.hid (by rw [List.append_nil]), hbox3, hb4, Nat.le_refl _⟩
          case round =>
            obtain ⟨j, P, Q, cu, rfl, HPl, hj, HAl, hcu, hcz, HT, HI, hbox4, hb5, hws2⟩ := hrel
            have HCc := Lib.hid (fun W => refClassM_any c W)
            have HAM : Hid ((P ++ c :: Q).length = O.length + (q + 1)) := Lib.hid (by rw [HAl.out]; have := HML.out; omega)
            obtain ⟨kc, hkc⟩ : ∃ kc, clM c = kc := ⟨_, rfl⟩
            rw [hkc] at HCc
            by_cases hj0 : j = 0
            · have t3 : decide (0 < j) = false := by simp; omega
              have t3' : decide ((0 : Int) < (j : Int)) = false := by simp; omega
              have hP : P = [] := List.length_eq_zero_iff.1 (HPl.out.trans hj0)
              have HF3 : Hid ((P ++ c :: Q).reverse = insB clM c O2.reverse) := Lib.hid (by
                have h := HI.out
                rw [hP, List.reverse_nil, insB] at h
                have h2 := congrArg List.reverse h
                rw [List.reverse_reverse] at h2
                rw [← h2]
                rw [hP]
                simp)
              clear hj0 hP hkc
              go_wp2
              go_big_quiet (first | (go_at_call_of 56 c; exact Calls.quiet_of (HCc.out _)))
              go_wp2
              go_roundw
              case rel => exact ⟨q + 1, P ++ c :: Q, by omega, by go_num, HAM.out, Lib.hid (HX2.out _ HF3.out), own_M HAl.out hBg hcu hcc HCM.out hcz HT.out, hbox4, fun g' hg' => (by cases hg'; exact hgb), below_drewN hb5 _, (show w2.heap.size ≤ wr.heap.size by omega)⟩
              case measure => simp [intOf]; omega
            · have hPn : P ≠ [] := fun e => hj0 (by rw [← HPl.out, e]; rfl)
              obtain ⟨P', p, hP⟩ : ∃ P' p, P = P' ++ [p] := ⟨P.dropLast, P.getLast hPn, (List.dropLast_concat_getLast hPn).symm⟩
              subst hP
              obtain ⟨j0, rfl⟩ : ∃ j0, j = j0 + 1 := ⟨j - 1, by omega⟩
              have hPl0 : P'.length = j0 := by have := HPl.out; simp at this; omega
              have HP0 := Lib.hid hPl0
              have t3 : decide (0 < j0 + 1) = true := by simp
              have t3' : decide ((0 : Int) < ((j0 + 1 : Nat) : Int)) = true := by simp
              have e0 : ((j0 + 1 : Nat) : Int) - 1 = (j0 : Int) := by omega
              have z1 : ((j0 + 1 : Nat) : Int) < ((M + 1 : Nat) : Int) := by omega
              have z0 : (j0 : Int) < ((M + 1 : Nat) : Int) := by omega
              have dc : wr.cell? ⟨g, j0 + 1, none⟩ = some (.int .i64 (c : Int)) := (hcu.cell (j0 + 1)).trans (take_cell HT.out (by rw [List.append_assoc, List.getElem?_append_right (by omega), hPl0]; simp))
              have dp : wr.cell? ⟨g, j0, none⟩ = some (.int .i64 (p : Int)) := (hcu.cell j0).trans (take_cell HT.out (by rw [List.append_assoc, List.getElem?_append_right (by omega), hPl0]; simp))
              have HCp := Lib.hid (fun W => refClassM_any p W)
              obtain ⟨kp, hkp⟩ : ∃ kp, clM p = kp := ⟨_, rfl⟩
              rw [hkp] at HCp
              have hrev : (P' ++ [p]).reverse = p :: P'.reverse := by simp
              clear hPl0 hPn hj0
              by_cases hkc0 : 0 < kc
              · have t4 : decide (0 < kc) = true := by simpa using hkc0
                have t4' : decide ((0 : Int) < (kc : Int)) = true := by simp; omega
                by_cases hcp : kc < kp
                · have t5 : decide (kc < kp) = true := by simpa using hcp
                  have t5' : decide ((kc : Int) < (kp : Int)) = true := by simp; omega
                  have HI2 : Hid ((insB clM c P'.reverse).reverse ++ p :: Q = (insB clM c O2.reverse).reverse) := Lib.hid (by
                    have h := HI.out
                    rw [hrev, ins_pos (by omega) (by omega), List.reverse_cons, List.append_assoc] at h
                    exact h)
                  have HT2 : Hid (((cu.setIfInBounds j0 (nv c)).setIfInBounds (j0 + 1) (nv p)).toList.take (M + 1) = (P' ++ c :: p :: Q).map nv) := Lib.hid (by
                    have h := swap_take (n := M + 1) (P := P') (Q := Q) (p := p) (c := c) (cur := cu) (by rw [HT.out]; simp)
                    rw [HP0.out] at h
                    exact h)
                  have HA2 : Hid ((P' ++ c :: p :: Q).length = M + 1) := Lib.hid (by have h := HAl.out; simp at h ⊢; omega)
                  have f0 : wr.frozen? ⟨g, j0, none⟩ = false := hcu.free j0
                  have f1 : wr.frozen? ⟨g, j0 + 1, none⟩ = false := hcu.free (j0 + 1)
                  clear hkc hkp hrev
                  go_wp2
                  go_big_quiet (first | (go_at_call_of 56 c; exact Calls.quiet_of (HCc.out _)) | (go_at_call_of 56 p; exact Calls.quiet_of (HCp.out _)))
                  go_wp2
                  go_region
                  all_goals
                    have hBel := ((below_drewN (Below.refl g wr) (nq + 1)).setCell (p := ⟨g, j0, none⟩) (Nat.le_refl g) (.int .i64 (c : Int))).setCell (p := ⟨g, j0 + 1, none⟩) (Nat.le_refl g) (.int .i64 (p : Int))
                    have hBs := hBel.size
                    go_wp2
                    go_roundw
                    case rel =>
                      exact ⟨j0, P', p :: Q, _, by go_num, HP0, by omega, HA2, ((hcu.drewN _).put j0 (nv c)).put (j0 + 1) (nv p), by simp [hcz], HT2, HI2,
                        ((hbox4.drewN _).put_other ⟨g, j0, none⟩ _ (fun e => hgb e.symm)).put_other ⟨g, j0 + 1, none⟩ _ (fun e => hgb e.symm), hb5.trans (hBel.mono hBg), by omega⟩
                    case measure => simp [intOf]
                · have t5 : decide (kc < kp) = false := by simpa using hcp
                  have t5' : decide ((kc : Int) < (kp : Int)) = false := by simp; omega
                  have HF3 : Hid ((P' ++ [p] ++ c :: Q).reverse = insB clM c O2.reverse) := Lib.hid (by
                    have h := HI.out
                    rw [hrev, ins_neg (fun h => hcp (by omega))] at h
                    have h2 := congrArg List.reverse h
                    rw [List.reverse_reverse] at h2
                    rw [← h2]
                    simp)
                  clear hkc hkp hrev
                  go_wp2
                  go_big_quiet (first | (go_at_call_of 56 c; exact Calls.quiet_of (HCc.out _)) | (go_at_call_of 56 p; exact Calls.quiet_of (HCp.out _)))
                  go_wp2
                  go_roundw
                  case rel => exact ⟨q + 1, P' ++ [p] ++ c :: Q, by omega, by go_num, HAM.out, Lib.hid (HX2.out _ HF3.out), own_M HAl.out hBg hcu hcc HCM.out hcz HT.out, hbox4, fun g' hg' => (by cases hg'; exact hgb), below_drewN hb5 _, (show w2.heap.size ≤ wr.heap.size by omega)⟩
                  case measure => simp [intOf]; omega
              · have t4 : decide (0 < kc) = false := by simp; omega
                have t4' : decide ((0 : Int) < (kc : Int)) = false := by simp; omega
                have HF3 : Hid ((P' ++ [p] ++ c :: Q).reverse = insB clM c O2.reverse) := Lib.hid (by
                  have h := HI.out
                  rw [hrev, ins_neg (fun h => hkc0 (by omega))] at h
                  have h2 := congrArg List.reverse h
                  rw [List.reverse_reverse] at h2
                  rw [← h2]
                  simp)
                clear hkc hkp hrev
                go_wp2
                go_big_quiet (first | (go_at_call_of 56 c; exact Calls.quiet_of (HCc.out _)) | (go_at_call_of 56 p; exact Calls.quiet_of (HCp.out _)))
                go_wp2
                go_roundw
                case rel => exact ⟨q + 1, P' ++ [p] ++ c :: Q, by omega, by go_num, HAM.out, Lib.hid (HX2.out _ HF3.out), own_M HAl.out hBg hcu hcc HCM.out hcz HT.out, hbox4, fun g' hg' => (by cases hg'; exact hgb), below_drewN hb5 _, (show w2.heap.size ≤ wr.heap.size by omega)⟩
                case measure => simp [intOf]; omega
        · obtain rfl : q = N := by omega
          have HO3 : Hid (O2.reverse = sortB clM [] ((l.take (k + 1)).flatMap wholeR)) := Lib.hid (HX.out O2 (by rw [HO2.out, List.take_of_length_le (by rw [HXN.out]; omega)]))
          go_wp2
          go_roundw
          case rel => exact ⟨k + 1, O2, by omega, by go_num, by omega, HO3, hown2, hb3⟩
          case measure => simp [intOf]; omega
    · obtain rfl : k = n := by omega
      have HE : Hid (F = O) := Lib.hid (by
        rw [← HF.out, HL.out]
        unfold dcF
        have h := HO.out
        rw [List.take_of_length_le (by rw [HLn.out]; omega)] at h
        rw [← h, List.reverse_reverse])
      go_wp2
      go_ret
      rw [HE.out]
      exact ⟨_, rfl, own_less hb1.size hown, below_next hb1 hb⟩

end Go.Proofs.YtafnjbmeponobaaGreatDoor

namespace Go.Proofs.YtafnjbmeponobaaGreatDoor
open Go.RowKit

/-- The characters of an encoded string; none of others. -/
def nL (s : List UInt8) : List Nat := (decR s).getD []
def nD (s : List UInt8) : List UInt8 := encL (dcF (nL s))
def nC (s : List UInt8) : List UInt8 := encL (compF (dcF (nL s)))
def nStrip (s : List UInt8) : List UInt8 := encL ((dcF (nL s)).filter fun c => !isM c)
def nMarks (s : List UInt8) : Nat := ((dcF (nL s)).filter isM).length
def nIs (s : List UInt8) : Bool := (decR s).isSome && decide (nC s = s)
def nEq (a b : List UInt8) : Bool := (decR a).isSome && (decR b).isSome && decide (nD a = nD b)
theorem ok_of_has {c : Nat} (h : hasN c = true) : okC c := by
  rw [← hasN_eq] at h
  have := has_range h
  exact ⟨by omega, has_kind.1 h⟩
theorem has_of_ok {c : Nat} (h : okC c) : hasN c = true := by rw [← hasN_eq]; exact ok_has h
theorem nL_has (s : List UInt8) : ∀ c ∈ nL s, hasN c = true := by
  unfold nL
  cases h : decR s with
  | none => simp
  | some l => exact fun c hc => has_of_ok ((enc_dec h).2 c hc)
theorem nL_len (s : List UInt8) : (nL s).length ≤ s.length := by
  unfold nL
  cases h : decR s with
  | none => simp
  | some l => exact dec_len h
theorem dcF_len (l : List Nat) : (dcF l).length ≤ 2 * l.length := by
  unfold dcF
  rw [List.length_reverse, sort_len, List.length_nil, Nat.add_zero]
  induction l with
  | nil => simp
  | cons c l ih =>
    have := whole_len c
    rw [List.flatMap_cons, List.length_append, List.length_cons]
    omega
theorem dcF_ok (s : List UInt8) : ∀ c ∈ dcF (nL s), okC c := fun c hc => ok_of_has (dcF_has (nL_has s) c hc)

theorem encode_own (base : Nat) (v : Value) (l : List Nat) (w : World) (hown : w.ownsRow base 3 1 v l.length (l.map nv)) (hok : ∀ c ∈ l, okC c) (hl : l.length ≤ 1000000) :
    Calls Tryz.prog 26 #[v] w fun e w' => e = .returned (.tuple #[.string (str (encL l)), .bool true]) ∧ Below w.heap.size w w' := by
  have hA := Arr.of_own hown
  obtain ⟨A, c, rfl⟩ := hA.form
  refine (refEncode_any A _ c _ w hA.int (by omega)).mono ?_
  rintro e w' ⟨h1, h2⟩
  rw [encR_nats hok] at h1
  exact ⟨h1, h2⟩

set_option maxRecDepth 20000 in
set_option maxHeartbeats 1600000 in
theorem refDecompose_any (s : List UInt8) (w : World) (hlen : s.length ≤ 100000) :
    Calls Tryz.prog 38 #[.string (str s)] w fun e w' => e = .returned (.string (str (nD s))) ∧ Below w.heap.size w w' := by
  have HD := Lib.hid (refDecomposed_any s w hlen)
  obtain ⟨R, hR⟩ : ∃ R, nD s = R := ⟨_, rfl⟩
  have HR : Hid (encL (dcF (nL s)) = R) := Lib.hid hR
  have HOK := Lib.hid (dcF_ok s)
  have hl1 := dcF_len (nL s)
  have hl2 := nL_len s
  have HL : Hid ((dcF (nL s)).length ≤ 1000000) := Lib.hid (by omega)
  rw [hR]
  clear hR hl1 hl2
  go_enter Tryz.func38, Tryz.ntmps38
  go_wp2_with fail
  refine HD.out.mono ?_
  rintro e w1 ⟨v, rfl, hown, hb1⟩
  have HE := Lib.hid (encode_own _ v _ w1 hown HOK.out HL.out)
  clear hown
  go_wp2_with fail
  refine HE.out.mono ?_
  rintro e w2 ⟨rfl, hb2⟩
  have e1 := HR.out
  unfold nL at e1
  rw [show encL (dcF ((decR s).getD [])) = R from e1]
  go_wp2
  go_ret
  exact ⟨rfl, below_next hb1 hb2⟩

set_option maxHeartbeats 1600000 in
theorem refEncoded_any (s : List UInt8) (w : World) (hlen : s.length ≤ 100000) :
    Calls Tryz.prog 52 #[.string (str s)] w fun e w' => e = .returned (.bool (decR s).isSome) ∧ Below w.heap.size w w' := by
  have HD := Lib.hid (refDecode_any s w (by omega))
  obtain ⟨R, hR⟩ : ∃ R, (decR s).isSome = R := ⟨_, rfl⟩
  rw [hR]
  have HR := Lib.hid hR
  clear hR
  go_enter Tryz.func52, Tryz.ntmps52
  go_wp2_with fail
  refine HD.out.mono ?_
  rintro e w1 ⟨hd, hb⟩
  obtain ⟨A, n, c, b, rfl, hcase⟩ := hd.form
  have HN : Hid (R = b) := Lib.hid (by
    rw [← HR.out]
    rcases hcase with ⟨h1, l, h2, _⟩ | ⟨h1, h2, _⟩
    · rw [h1, h2]; rfl
    · rw [h1, h2]; rfl)
  clear hd hcase
  go_wp2
  go_ret
  exact ⟨ret_bool HN.out.symm, hb⟩

theorem str_beq (a b : List UInt8) : ((str a).toList == (str b).toList) = decide (a = b) := by
  rw [str_toList, str_toList]
  by_cases h : a = b
  · rw [h, decide_eq_true rfl]; simp
  · rw [decide_eq_false h]; simpa using h

set_option maxRecDepth 20000 in
set_option maxHeartbeats 1600000 in
theorem refEqual_any (s t : List UInt8) (w : World) (hlen : s.length ≤ 100000) (hlen2 : t.length ≤ 100000) :
    Calls Tryz.prog 25 #[.string (str s), .string (str t)] w fun e w' => e = .returned (.bool (nEq s t)) ∧ Below w.heap.size w w' := by
  obtain ⟨R, hR⟩ : ∃ R, nEq s t = R := ⟨_, rfl⟩
  rw [hR]
  unfold nEq at hR
  have HS := Lib.hid (fun W => refEncoded_any s W hlen)
  have HT := Lib.hid (fun W => refEncoded_any t W hlen2)
  have HDS := Lib.hid (fun W => refDecompose_any s W hlen)
  have HDT := Lib.hid (fun W => refDecompose_any t W hlen2)
  cases h1 : (decR s).isSome with
  | false =>
    have HE : Hid (R = false) := Lib.hid (by rw [← hR, h1]; rfl)
    rw [h1] at HS
    clear hR h1
    go_enter Tryz.func25, Tryz.ntmps25
    go_wp2_with fail
    refine (HS.out _).mono ?_
    rintro e w1 ⟨rfl, hb1⟩
    go_wp2
    go_ret
    exact ⟨ret_bool HE.out.symm, hb1⟩
  | true =>
    cases h2 : (decR t).isSome with
    | false =>
      have HE : Hid (R = false) := Lib.hid (by rw [← hR, h2]; simp)
      rw [h1] at HS
      rw [h2] at HT
      clear hR h1 h2
      go_enter Tryz.func25, Tryz.ntmps25
      go_wp2_with fail
      refine (HS.out _).mono ?_
      rintro e w1 ⟨rfl, hb1⟩
      go_wp2_with fail
      refine (HT.out _).mono ?_
      rintro e w2 ⟨rfl, hb2⟩
      go_wp2
      go_ret
      exact ⟨ret_bool HE.out.symm, below_next hb1 hb2⟩
    | true =>
      obtain ⟨x, hx⟩ : ∃ x, nD s = x := ⟨_, rfl⟩
      obtain ⟨y, hy⟩ : ∃ y, nD t = y := ⟨_, rfl⟩
      rw [hx] at HDS
      rw [hy] at HDT
      have HE : Hid (R = decide (x = y)) := Lib.hid (by rw [← hR, h1, h2, hx, hy]; rfl)
      have HQ := str_beq x y
      obtain ⟨z, hz⟩ : ∃ z, decide (x = y) = z := ⟨_, rfl⟩
      rw [hz] at HQ HE
      rw [h1] at HS
      rw [h2] at HT
      clear hR h1 h2 hx hy hz
      go_enter Tryz.func25, Tryz.ntmps25
      go_wp2_with fail
      refine (HS.out _).mono ?_
      rintro e w1 ⟨rfl, hb1⟩
      go_wp2_with fail
      refine (HT.out _).mono ?_
      rintro e w2 ⟨rfl, hb2⟩
      go_wp2_with fail
      refine (HDS.out _).mono ?_
      rintro e w3 ⟨rfl, hb3⟩
      go_wp2_with fail
      refine (HDT.out _).mono ?_
      rintro e w4 ⟨rfl, hb4⟩
      go_wp2
      go_ret
      exact ⟨ret_bool HE.out.symm, below_next (below_next (below_next hb1 hb2) hb3) hb4⟩

theorem isM_zero {c : Nat} : isM c = false ↔ clM c = 0 := by
  unfold isM
  rw [← Bool.not_eq_true, Nat.blt_eq]
  omega
theorem isM_pos {c : Nat} : isM c = true ↔ 0 < clM c := by
  unfold isM
  rw [Nat.blt_eq]
theorem filter_next {p : Nat → Bool} {l : List Nat} {k c : Nat} (h : l[k]? = some c) : (l.take (k + 1)).filter p = (l.take k).filter p ++ if p c = true then [c] else [] := by
  rw [take_next h, List.filter_append]
  by_cases hp : p c = true
  · rw [if_pos hp]; simp [hp]
  · rw [if_neg hp]; simp [hp]

set_option maxRecDepth 20000 in
set_option maxHeartbeats 1600000 in
theorem refStrip_any (s : List UInt8) (w : World) (hlen : s.length ≤ 100000) :
    Calls Tryz.prog 28 #[.string (str s)] w fun e w' => e = .returned (.string (str (nStrip s))) ∧ Below w.heap.size w w' := by
  have HD := Lib.hid (refDecomposed_any s w hlen)
  obtain ⟨l, hl⟩ : ∃ l, dcF ((decR s).getD []) = l := ⟨_, rfl⟩
  have hl1 := dcF_len (nL s)
  have hl2 := nL_len s
  have hll : l.length ≤ 200000 := by rw [← hl]; unfold nL at hl1 hl2; omega
  have HN : Hid (nStrip s = encL (l.filter fun c => !isM c)) := Lib.hid (by rw [← hl]; rfl)
  have HOK : Hid (∀ c ∈ l, okC c) := Lib.hid (by rw [← hl]; exact dcF_ok s)
  rw [hl] at HD
  clear hl hl1 hl2
  go_enter Tryz.func28, Tryz.ntmps28
  go_wp2_with fail
  refine HD.out.mono ?_
  rintro e w1 ⟨v, rfl, hown, hb1⟩
  have hA := Arr.of_own hown
  obtain ⟨n, hn⟩ : ∃ n, l.length = n := ⟨_, rfl⟩
  rw [hn] at hll
  obtain ⟨A, c, rfl⟩ := hA.form
  rw [hn] at hA ⊢
  have HL := Lib.hid hn
  clear hn hown HD
  go_wp2
  go_loopw [4, 5] (fun v i wr => ∃ (k : Nat) (O : List Nat), k ≤ n ∧ i = .int .i64 (k : Int) ∧ Hid (O = (l.take k).filter fun c => !isM c) ∧ O.length ≤ k ∧ wr.ownsRow w1.heap.size 3 1 v O.length (O.map nv) ∧ Below w1.heap.size w1 wr) (fun _ i _ => n - (intOf i).toNat)
  case atStart => exact ⟨0, [], by omega, rfl, Lib.hid rfl, by simp, World.ownsRow_nil _ _ _ _, Below.refl _ _⟩
  case round =>
    obtain ⟨k, O, hk, rfl, HO, hOk, hown, hb⟩ := hrel
    have hbs := hb.size
    by_cases hlt : k < n
    · have i1 : decide ((k : Int) < (n : Int)) = true := by simp; omega
      obtain ⟨b0, o0, rfl, hB0, hc0⟩ := hA.some_ (by omega)
      obtain ⟨x, hx⟩ : ∃ a, l[k]? = some a := ⟨_, List.getElem?_eq_getElem (by have := HL.out; omega)⟩
      have d0 := (hb.cell (p := ⟨b0, o0 + k, none⟩) hB0).trans (hc0 k x hx)
      simp only [nv] at d0
      have kz : (k : Int) < (n : Int) := by omega
      have HC := refClassM_any x wr
      have HF := filter_next (p := fun c => !isM c) hx
      obtain ⟨kc, hkc⟩ : ∃ kc, clM x = kc := ⟨_, rfl⟩
      rw [hkc] at HC
      have HC := Lib.hid HC
      by_cases h0 : kc = 0
      · have t1 : ((kc : Int) == 0) = true := by rw [h0]; rfl
        have HO2 : Hid (O ++ [x] = (l.take (k + 1)).filter fun c => !isM c) := Lib.hid (by
          have hz : isM x = false := isM_zero.2 (by omega)
          rw [HF, if_pos (by simp [hz]), HO.out])
        have hOl : (O ++ [x]).length ≤ k + 1 := by rw [List.length_append, List.length_singleton]; omega
        clear hc0 hx hkc HF h0
        go_wp2_with fail
        refine HC.out.mono ?_
        rintro e w2 ⟨rfl, q2, rfl⟩
        have hown2 := own_drewN hown q2
        go_wp2_with (at_builtin; refine append_int (wr.drewN q2) rfl (.tmp 22) (.tmp 27) rfl w1.heap.size u4 O rfl hown2 x _ rfl rfl (by omega) hbs ?_; intro r1 w3 hown3 hb3)
        go_roundw
        case rel => exact ⟨k + 1, O ++ [x], by omega, by go_num, HO2, hOl, hown3, (below_drewN hb q2).trans hb3⟩
        case measure => simp [intOf]; omega
      · have t1 : ((kc : Int) == 0) = false := eqb_false (by omega)
        have HO2 : Hid (O = (l.take (k + 1)).filter fun c => !isM c) := Lib.hid (by
          have hz : isM x = true := isM_pos.2 (by omega)
          rw [HF, if_neg (by simp [hz]), List.append_nil, HO.out])
        clear hc0 hx hkc HF h0
        go_wp2_with fail
        refine HC.out.mono ?_
        rintro e w2 ⟨rfl, q2, rfl⟩
        go_wp2
        go_roundw
        case rel => exact ⟨k + 1, O, by omega, by go_num, HO2, by omega, own_drewN hown q2, below_drewN hb q2⟩
        case measure => simp [intOf]; omega
    · obtain rfl : k = n := by omega
      have hOe : O = l.filter fun c => !isM c := by have := HO.out; rwa [List.take_of_length_le (by rw [HL.out]; omega)] at this
      have HE : Hid (nStrip s = encL O) := Lib.hid (by rw [HN.out, hOe])
      have hEnc := Lib.hid (encode_own _ u4 O wr hown (fun c hc => HOK.out c (by rw [hOe] at hc; exact (List.mem_filter.1 hc).1)) (by omega))
      clear hOe hown
      go_wp2_with fail
      refine hEnc.out.mono ?_
      rintro e w2 ⟨rfl, hb2⟩
      go_wp2
      go_ret
      rw [HE.out]
      exact ⟨rfl, below_next (below_next hb1 hb) hb2⟩

end Go.Proofs.YtafnjbmeponobaaGreatDoor

namespace Go.Proofs.YtafnjbmeponobaaGreatDoor
open Go.RowKit

theorem drop_cons {l : List Nat} {i y : Nat} (h : l[i]? = some y) : l.drop i = y :: l.drop (i + 1) := by
  obtain ⟨h1, h2⟩ := List.getElem?_eq_some_iff.1 h
  rw [List.drop_eq_getElem_cons h1, h2]
theorem get_of_drop {l r : List Nat} {i y : Nat} (h : l.drop i = y :: r) : l[i]? = some y := by
  have h2 := congrArg List.head? h
  rw [List.head?_drop] at h2
  exact h2
theorem compF_mark {y : Nat} {r : List Nat} (h : isM y = true) : compF (y :: r) = y :: compF r := by rw [compF, if_pos h]
theorem compF_base {y : Nat} {r : List Nat} (h : ¬ isM y = true) : compF (y :: r) = (runF y [] (r.takeWhile isM)).1 :: ((runF y [] (r.takeWhile isM)).2 ++ compF (r.dropWhile isM)) := by rw [compF, if_neg h]
theorem run_yes {c y : Nat} {left t : List Nat} (h : compR c y ≠ 0) (h2 : (left.any fun k => Nat.beq (clM k) (clM y)) = false) : runF c left (y :: t) = runF (compR c y) left t := by rw [runF, if_pos ⟨h, h2⟩]
theorem run_no {c y : Nat} {left t : List Nat} (h : ¬ (compR c y ≠ 0 ∧ (left.any fun k => Nat.beq (clM k) (clM y)) = false)) : runF c left (y :: t) = runF c (left ++ [y]) t := by rw [runF, if_neg h]
theorem any_next {p : Nat → Bool} {l : List Nat} {k c : Nat} (h : l[k]? = some c) : (l.take (k + 1)).any p = ((l.take k).any p || p c) := by
  rw [take_next h, List.any_append]
  simp
theorem compF_len : ∀ (n : Nat) (d : List Nat), d.length ≤ n → (compF d).length ≤ d.length
  | _, [], _ => by rw [compF]; simp
  | 0, _ :: _, hn => by simp at hn
  | n + 1, c :: r, hn => by
    rw [compF]
    split
    · have := compF_len n r (by simp at hn; omega)
      simp
      omega
    · have hlen := (List.dropWhile_suffix isM (l := r)).length_le
      have h1 := compF_len n (r.dropWhile isM) (by simp at hn; omega)
      have h2 : (r.takeWhile isM).length + (r.dropWhile isM).length = r.length := by
        rw [← List.length_append, List.takeWhile_append_dropWhile]
      have h3 : (runF c [] (r.takeWhile isM)).2.length ≤ (r.takeWhile isM).length := by
        rcases run_cases c (r.takeWhile isM) [] with e | ⟨A, m, B, e1, e2, e3, e4⟩
        · rw [e]; simp
        · rw [e4, e1]; simp
      simp
      omega

end Go.Proofs.YtafnjbmeponobaaGreatDoor
