/-
  The program's own Search: its closure, and the loop.
  The program's own Search, Is, Alike.
  The program's own Is, Alike, Join.
-/
import Derived.Test.YtafnjbmeponobaaGreatDoorPkBA
namespace Go.Proofs.YtafnjbmeponobaaGreatDoor
open Go.RowKit

/-- One folded character more: what is written so far, and whether a space is due. -/
def putS (O : List Nat) (d : Bool) (c : Nat) : List Nat × Bool :=
  if kN c = 2 then (O, d) else if kN c = 1 ∨ kN c = 3 then ((if d = true then O ++ [32] else O) ++ plainL c, false) else (O, decide (O ≠ []))
theorem put_len (O : List Nat) (d : Bool) (c : Nat) : (putS O d c).1.length ≤ O.length + 3 := by
  have h := plain_len c
  unfold putS
  split
  · simp
  split
  · rw [List.length_append]
    split
    · rw [List.length_append]; simp; omega
    · omega
  · simp
theorem hasR_of_good {e : Nat} (h : GoodE e) : hasR (e : Int) = true := by rw [hasN_eq]; exact h.has
theorem encC_32 : encC 32 = [32] := by decide

set_option maxRecDepth 20000 in
set_option maxHeartbeats 3200000 in
theorem prPut_any (B b D : Nat) (O : List Nat) (d : Bool) (c : Nat) (w : World) (hS : Spans w) (hc : hasR (c : Int) = true) (hI : Built B b (encL O) w) (hD : Box w D 4 #[.bool d]) (hDb : D ≠ b) (hBD : B ≤ D) (hBw : B ≤ w.heap.size) (hO : O.length ≤ 1000000) (hd : d = true → O ≠ []) :
    Calls Tryz.prog 110 #[.int .i64 (c : Int), .pointer (some ⟨D, 0, none⟩), .pointer (some ⟨b, 0, none⟩)] w fun e w' => e = .returned (.tuple #[]) ∧
      Built B b (encL (putS O d c).1) w' ∧ Box w' D 4 #[.bool (putS O d c).2] ∧ Below B w w' ∧ Iters w w' := by
  obtain ⟨O2, hO2⟩ : ∃ x, (putS O d c).1 = x := ⟨_, rfl⟩
  obtain ⟨d2, hd2⟩ : ∃ x, (putS O d c).2 = x := ⟨_, rfl⟩
  rw [hO2, hd2]
  have HCl := Lib.hid (prClass_any (c : Int) w hS)
  rw [clsF_eq] at HCl
  obtain ⟨a, ha⟩ : ∃ a, (clsF c).1 = a := ⟨_, rfl⟩
  obtain ⟨kd, hkd⟩ : ∃ kd, kN c = kd := ⟨_, rfl⟩
  rw [ha, show (clsF c).2 = kd from hkd] at HCl
  have hle := encL_len O
  have hbt : (4 : TypeId) ≠ 5 := by decide
  have HNext : Hid (∀ w1, Below w.heap.size w w1 → Built B b (encL O) w1 ∧ Box w1 D 4 #[.bool d] ∧ Below B w w1 ∧ Iters w w1 ∧ B ≤ w1.heap.size) := Lib.hid fun w1 k1 => ⟨hI.below k1, hD.below k1 hD.lt, k1.mono hBw, Iters.of_below k1, Nat.le_trans hBw k1.size⟩
  clear ha
  by_cases h2 : kd = 2
  · have t2 : ((kd : Int) == 2) = true := eqb_true (by omega)
    have HE : Hid (O2 = O ∧ d2 = d) := Lib.hid (by
      unfold putS at hO2 hd2
      rw [hkd, if_pos h2] at hO2 hd2
      exact ⟨hO2.symm, hd2.symm⟩)
    clear hO2 hd2 hkd h2 hd
    go_enter Tryz.func110, Tryz.ntmps110
    go_wp2_with fail
    refine HCl.out.mono ?_
    rintro e w1 ⟨rfl, k1⟩
    unfold two
    go_wp2
    go_end0
    obtain ⟨g1, g2, g3, g4, _⟩ := HNext.out w1 k1
    rw [HE.out.1, HE.out.2]
    exact ⟨rfl, g1, g2, g3, g4⟩
  have t2 : ((kd : Int) == 2) = false := eqb_false (by omega)
  by_cases h13 : kd = 1 ∨ kd = 3
  · have hK : ((kd : Int) == 1) = true ∨ ((kd : Int) == 1) = false ∧ ((kd : Int) == 3) = true := by
      rcases h13 with h | h
      · exact .inl (eqb_true (by omega))
      · exact .inr ⟨eqb_false (by omega), eqb_true (by omega)⟩
    have hpl := plain_len c
    have HPl := Lib.hid fun W => prPlain_s c W hc
    have hE : O2 = (if d = true then O ++ [32] else O) ++ plainL c ∧ d2 = false := by
      unfold putS at hO2 hd2
      rw [hkd, if_neg h2, if_pos h13] at hO2 hd2
      exact ⟨hO2.symm, hd2.symm⟩
    have hel2 := encL_len (plainL c)
    obtain ⟨p, hp⟩ : ∃ p, plainL c = p := ⟨_, rfl⟩
    rw [hp] at HPl hE hpl hel2
    clear hO2 hd2 hkd h2 h13 hp
    cases d with
    | true =>
      have HE : Hid (O2 = (O ++ [32]) ++ p ∧ d2 = false) := Lib.hid hE
      clear hE hd
      rcases hK with t3 | ⟨t3, t4⟩
      all_goals
        go_enter Tryz.func110, Tryz.ntmps110
        go_wp2_with fail
        refine HCl.out.mono ?_
        rintro e w1 ⟨rfl, k1⟩
        unfold two
        obtain ⟨g1, g2, g3, g4, g5⟩ := HNext.out w1 k1
        have c1 := g2.cell 0
        simp only [List.getElem?_toArray, List.getElem?_cons_zero] at c1
        have HWB := Lib.hid (writeByte_k B b (encL O) 32 w1 g1 (by omega) g5)
        go_wp2_with fail
        refine HWB.out.mono ?_
        rintro e w2 ⟨rfl, HI2, k2, o2⟩
        have HD2 := g2.kept o2 hbt hDb
        have f2 := HD2.free 0
        have hc2 := HD2.cell 0
        simp only [List.getElem?_toArray, List.getElem?_cons_zero] at hc2
        have g6 := g3.trans k2
        have g7 := g4.trans (Iters.of_kept g1 o2)
        have HI3 := HI2.put HD2 hbt hDb (.bool false)
        have HD3 : Box (w2.setCell ⟨D, 0, none⟩ (.bool false)) D 4 #[.bool false] := HD2.put 0 (.bool false)
        have k3 := g6.setCell (p := ⟨D, 0, none⟩) hBD (.bool false)
        have i3 := g7.trans (Iters.put HD2 (.bool false))
        have hs3 : B ≤ (w2.setCell ⟨D, 0, none⟩ (.bool false)).heap.size := by have := k2.size; simp; omega
        have hl3 : (encL O ++ [32]).length ≤ 100000000 := by rw [List.length_append]; simp; omega
        have HWS := Lib.hid (writeStr_k B b (encL O ++ [32]) (encL p) _ HI3 hl3 (by omega) hs3)
        go_wp2_with fail
        refine (HPl.out _).mono ?_
        rintro e w4 ⟨rfl, rfl⟩
        go_wp2_with fail
        refine HWS.out.mono ?_
        rintro e w5 ⟨⟨n5, rfl⟩, HI5, k5, o5⟩
        go_wp2
        go_end0
        rw [HE.out.1, HE.out.2, encL_app, encL_app, show encL [32] = [32] by decide]
        exact ⟨rfl, HI5, HD3.kept o5 hbt hDb, k3.trans k5, i3.trans (Iters.of_kept HI3 o5)⟩
    | false =>
      have HE : Hid (O2 = O ++ p ∧ d2 = false) := Lib.hid hE
      clear hE hd
      rcases hK with t3 | ⟨t3, t4⟩
      all_goals
        go_enter Tryz.func110, Tryz.ntmps110
        go_wp2_with fail
        refine HCl.out.mono ?_
        rintro e w1 ⟨rfl, k1⟩
        unfold two
        obtain ⟨g1, g2, g3, g4, g5⟩ := HNext.out w1 k1
        have c1 := g2.cell 0
        simp only [List.getElem?_toArray, List.getElem?_cons_zero] at c1
        have HWS := Lib.hid (writeStr_k B b (encL O) (encL p) w1 g1 (by omega) (by omega) g5)
        go_wp2_with fail
        refine (HPl.out _).mono ?_
        rintro e w4 ⟨rfl, rfl⟩
        go_wp2_with fail
        refine HWS.out.mono ?_
        rintro e w5 ⟨⟨n5, rfl⟩, HI5, k5, o5⟩
        go_wp2
        go_end0
        rw [HE.out.1, HE.out.2, encL_app]
        exact ⟨rfl, HI5, g2.kept o5 hbt hDb, g3.trans k5, g4.trans (Iters.of_kept g1 o5)⟩
  · have t3 : ((kd : Int) == 1) = false := eqb_false (by omega)
    have t4 : ((kd : Int) == 3) = false := eqb_false (by omega)
    have HE : Hid (O2 = O ∧ d2 = decide (0 < ((encL O).length : Int))) := Lib.hid (by
      unfold putS at hO2 hd2
      rw [hkd, if_neg h2, if_neg h13] at hO2 hd2
      refine ⟨hO2.symm, ?_⟩
      rw [← hd2]
      have hn : (encL O).length = 0 ↔ O = [] := by rw [List.length_eq_zero_iff]; exact encL_nil
      by_cases h0 : O = []
      · rw [decide_eq_false (by simpa using h0), decide_eq_false]; have := hn.2 h0; omega
      · rw [decide_eq_true h0, decide_eq_true]; have : (encL O).length ≠ 0 := fun e => h0 (hn.1 e); omega)
    obtain ⟨z, hz⟩ : ∃ z, decide (0 < ((encL O).length : Int)) = z := ⟨_, rfl⟩
    rw [hz] at HE
    clear hO2 hd2 hkd h2 h13 hd
    go_enter Tryz.func110, Tryz.ntmps110
    go_wp2_with fail
    refine HCl.out.mono ?_
    rintro e w1 ⟨rfl, k1⟩
    unfold two
    obtain ⟨g1, g2, g3, g4, g5⟩ := HNext.out w1 k1
    have c1 := g2.cell 0
    simp only [List.getElem?_toArray, List.getElem?_cons_zero] at c1
    have f1 := g2.free 0
    have HLn := Lib.hid (buildLen_k B b (encL O) w1 g1)
    obtain ⟨m, hm⟩ : ∃ m, (encL O).length = m := ⟨_, rfl⟩
    rw [hm] at hz HLn
    have hz2 : decide (0 < m) = z := by rw [← hz]; simp
    go_wp2_with fail
    refine HLn.out.mono ?_
    rintro e w2 ⟨rfl, rfl⟩
    go_wp2
    go_end0
    rw [HE.out.1, HE.out.2]
    exact ⟨rfl, g1.put g2 hbt hDb _, g2.put 0 _, g3.setCell (p := ⟨D, 0, none⟩) hBD _, g4.trans (Iters.put g2 _)⟩

end Go.Proofs.YtafnjbmeponobaaGreatDoor

namespace Go.Proofs.YtafnjbmeponobaaGreatDoor
open Go.RowKit

theorem put_ne (O : List Nat) (d : Bool) (c : Nat) (hd : d = true → O ≠ []) : (putS O d c).2 = true → (putS O d c).1 ≠ [] := by
  unfold putS
  split
  · exact hd
  split
  · intro h; cases h
  · intro h; simpa using h
theorem put_step (O : List Nat) (d : Bool) (c : Nat) (R : List Nat) (hd : d = true → O ≠ []) : sqz O d (tokL c ++ R) = sqz (putS O d c).1 (putS O d c).2 R := by
  unfold putS
  by_cases h2 : kN c = 2
  · have htok : tokL c = [] := by unfold tokL; rw [h2, if_pos (beq_true 2)]
    rw [if_pos h2, htok]
    rfl
  · rw [if_neg h2]
    by_cases h13 : kN c = 1 ∨ kN c = 3
    · have hld : isLD c = true := by
        unfold isLD
        rcases h13 with h | h
        · rw [h]; rfl
        · rw [h]; rfl
      have hw := plain_word (ld_nsp hld)
      have htok : tokL c = plainL c := by unfold tokL; rw [beq_false h2, if_neg (by decide), if_pos hld]
      rw [if_pos h13, htok]
      cases d with
      | true => exact sqz_t hw (hd rfl) R
      | false => exact sqz_f hw (.inr rfl) R
    · have hld : isLD c = false := by
        unfold isLD
        rw [beq_false (show kN c ≠ 1 from fun h => h13 (.inl h)), beq_false (show kN c ≠ 3 from fun h => h13 (.inr h))]
        rfl
      have htok : tokL c = [32] := by unfold tokL; rw [beq_false h2, if_neg (by decide), hld, if_neg (by decide)]
      rw [if_neg h13, htok, List.singleton_append, sqz_sp]
      by_cases h0 : O = []
      · rw [h0]
        unfold sqz
        rw [if_pos rfl, if_pos rfl]
      · rw [show decide (O ≠ []) = true from decide_eq_true h0]
def putF (l : List Nat) : List Nat × Bool := l.foldl (fun st c => putS st.1 st.2 c) ([], false)
theorem put_fold : ∀ (F : List Nat) (O : List Nat) (d : Bool), (d = true → O ≠ []) → (F.foldl (fun st c => putS st.1 st.2 c) (O, d)).1 = sqz O d (F.flatMap tokL)
  | [], O, d, _ => by rw [List.flatMap_nil, sqz_nil]; rfl
  | c :: F, O, d, hd => by
    rw [List.foldl_cons, List.flatMap_cons, put_step O d c _ hd]
    exact put_fold F _ _ (put_ne O d c hd)
theorem put_all (F : List Nat) : (putF F).1 = searchL F := by
  unfold putF
  rw [put_fold F [] false (fun h => by cases h)]
  unfold sqz searchL
  rw [if_pos rfl]
theorem put_snoc {l O : List Nat} {d : Bool} {c : Nat} (h : putF l = (O, d)) : putF (l ++ [c]) = ((putS O d c).1, (putS O d c).2) := by
  unfold putF at h ⊢
  rw [List.foldl_append, h]
  rfl

set_option maxRecDepth 20000 in
set_option maxHeartbeats 3200000 in
theorem prSearch_s (s : List UInt8) (w : World) (hS : Spans w) (hlen : s.length ≤ 5000) :
    Calls Tryz.prog 92 #[.string (str s)] w fun e w' => e = .returned (.string (str (nSearch s))) ∧ Below w.heap.size w w' := by
  have hbb : Below w.heap.size w ((w.alloc (.cells #[.pointer none, .slice none 0 0] 104)).alloc (.cells #[.bool false] 4)) := below_new (below_new (Below.refl _ _) _) _
  have HD := Lib.hid (prFold_s s _ (hS.below hbb) hlen)
  have hdl : (nFold s).length ≤ 60000 := by
    have h1 := nFL_len s
    have h2 := encL_len (nFL s)
    unfold nFold
    omega
  obtain ⟨R, hR⟩ : ∃ R, nSearch s = R := ⟨_, rfl⟩
  rw [hR]
  have HR : Hid (encL (searchL (nFL s)) = R) := Lib.hid hR
  have HT0 : decR (nFold s) = some (nFL s) := enc_some (dec_ok (nFL_dec s))
  obtain ⟨F, hF⟩ : ∃ F, nFL s = F := ⟨_, rfl⟩
  obtain ⟨t, ht⟩ : ∃ t, nFold s = t := ⟨_, rfl⟩
  rw [ht] at HD HT0 hdl
  rw [hF] at HR HT0
  have HT := Lib.hid HT0
  have hsz : (str t).size = t.length := rfl
  have HFr : Hid (Built w.heap.size w.heap.size [] ((w.alloc (.cells #[.pointer none, .slice none 0 0] 104)).alloc (.cells #[.bool false] 4))) := Lib.hid (Lib.IsBuilderF.alloc (Built.fresh w) _)
  have HBx : Hid (Box ((w.alloc (.cells #[.pointer none, .slice none 0 0] 104)).alloc (.cells #[.bool false] 4)) (w.heap.size + 1) 4 #[.bool false]) := Lib.hid (by
    have := Box.made (w.alloc (.cells #[.pointer none, .slice none 0 0] 104)) 4 #[.bool false]
    simpa using this)
  have HSp := Lib.hid hS
  clear hR hF ht HT0 hS
  go_enter Tryz.func92, Tryz.ntmps92
  go_wp2_with fail
  refine HD.out.mono ?_
  rintro e w2 ⟨rfl, k2⟩
  have HI2 := Lib.hid (HFr.out.below k2)
  have HB2 := Lib.hid (HBx.out.below k2 (by simp))
  have hb2 : Below w.heap.size w w2 := hbb.trans (k2.mono (by simp; omega))
  have hs2 : w.heap.size + 1 < w2.heap.size := by have := k2.size; simp at this; omega
  clear k2 HD HFr HBx hbb
  go_wp2
  go_loopw [] (fun wr => ∃ (pos : Nat) (l O : List Nat) (d : Bool), Built w.heap.size w.heap.size (encL O) wr ∧ Box wr (w.heap.size + 1) 4 #[.bool d] ∧ wr.heap[w2.heap.size]? = some (.stringIter (str t) pos) ∧ Hid (Past t pos l) ∧ Hid (putF l = (O, d)) ∧ Hid (d = true → O ≠ []) ∧ O.length ≤ 3 * l.length ∧ Below w.heap.size w wr) (fun wr => t.length - wr.iterPos w2.heap.size)
  case atStart =>
    refine ⟨0, [], [], false, Lib.IsBuilderF.alloc HI2.out _, HB2.out.alloc _, World.iter_heap w2 (str t) 0, Lib.hid (Past.start t), Lib.hid rfl, Lib.hid (fun h => by cases h), by simp, hb2.alloc hb2.size _⟩
  case round =>
    obtain ⟨pos, l, O, d, HI, HB, hit, HP, HO, Hd, hOl, hb⟩ := hrel
    have hks : w2.heap.size < wr.heap.size := (Array.getElem?_eq_some_iff.1 hit).1
    by_cases hp : pos < t.length
    · obtain ⟨c, n, hcn⟩ : ∃ c n, Utf8.decode (str t) pos = (c, n) := ⟨_, _, rfl⟩
      have hnx : ∀ ty, (Instr.next (.pointer (some ⟨w2.heap.size, 0, none⟩)) true ty).run Tryz.prog wr = _ := fun ty => Lib.run_next_any_at wr w2.heap.size (str t) pos ty hit hp
      have hit2 := Lib.iterAt_heap wr w2.heap.size (str t) pos (pos + (Utf8.decode (str t) pos).2) hit
      have hI2 := HI.iterAt hit (pos + (Utf8.decode (str t) pos).2)
      have hB2 : Box (wr.iterAt w2.heap.size (str t) (pos + (Utf8.decode (str t) pos).2)) (w.heap.size + 1) 4 #[.bool d] := (Lib.iterAt_other wr w2.heap.size (w.heap.size + 1) (str t) _ (by omega)).trans HB
      have hbw2 := Lib.below_iterAt hb (k := w2.heap.size) (by omega) (str t) (pos + (Utf8.decode (str t) pos).2)
      have hcm := decode_le (str t) pos
      simp only [hcn] at hnx hit2 hbw2 hcm hI2 hB2
      have hcz : (c : Int) ≤ 2147483647 := by omega
      have hcz0 : (0 : Int) ≤ (c : Int) := by omega
      have hc : hasR (c : Int) = true := by
        cases hc : hasR (c : Int) with
        | true => rfl
        | false => have h := HP.out.rune_bad hp hcn hc; rw [HT.out] at h; cases h
      obtain ⟨h1, h0⟩ := HP.out.rune hp hcn hc
      have HN := Lib.hid h1
      have hle := h1.1
      have hll := HP.out.2.1
      have hsb : w.heap.size ≤ (wr.iterAt w2.heap.size (str t) (pos + n)).heap.size := by rw [Lib.iterAt_size]; omega
      obtain ⟨W, hW⟩ : ∃ W, wr.iterAt w2.heap.size (str t) (pos + n) = W := ⟨_, rfl⟩
      rw [hW] at hnx hit2 hbw2 hI2 hsb hB2
      have HC := Lib.hid (prPut_any w.heap.size w.heap.size (w.heap.size + 1) O d c W (HSp.out.below hbw2) hc hI2 hB2 (by omega) (by omega) hsb (by omega) Hd.out)
      have HO2 := Lib.hid (put_snoc (c := c) HO.out)
      have Hd2 := Lib.hid (put_ne O d c Hd.out)
      have hpl := put_len O d c
      obtain ⟨O2, hO2⟩ : ∃ x, (putS O d c).1 = x := ⟨_, rfl⟩
      obtain ⟨d2, hd2⟩ : ∃ x, (putS O d c).2 = x := ⟨_, rfl⟩
      rw [hO2] at HC HO2 Hd2 hpl
      rw [hd2] at HC HO2 Hd2
      clear hcn h1 hc hW hO2 hd2
      go_wp2_with fail
      refine HC.out.mono ?_
      rintro e w4 ⟨rfl, HI4, HB4, k4, i4⟩
      have hit4 := i4 _ _ _ hit2
      go_wp2
      go_roundw
      case rel => exact ⟨pos + n, l ++ [c], O2, d2, HI4, HB4, hit4, HN, HO2, Hd2, by rw [List.length_append]; simp; omega, hbw2.trans k4⟩
      case measure =>
        rw [iterPos_of hit4, iterPos_of hit]
        omega
    · have HE : Hid (R = encL O) := Lib.hid (by
        have h := HP.out.done hp
        rw [HT.out] at h
        rw [← HR.out, Option.some.inj h, ← put_all, HO.out])
      have hnx : ∀ ty, (Instr.next (.pointer (some ⟨w2.heap.size, 0, none⟩)) true ty).run Tryz.prog wr = _ := fun ty => Lib.run_next_end_at wr w2.heap.size (str t) pos ty hit hp
      have HC := Lib.hid (buildStr_k w.heap.size w.heap.size (encL O) wr HI (by omega))
      go_wp2_with fail
      refine HC.out.mono ?_
      rintro e w4 ⟨rfl, k4⟩
      go_wp2
      go_ret
      rw [HE.out]
      exact ⟨rfl, hb.trans k4⟩

end Go.Proofs.YtafnjbmeponobaaGreatDoor

namespace Go.Proofs.YtafnjbmeponobaaGreatDoor
open Go.RowKit

set_option maxRecDepth 20000 in
set_option maxHeartbeats 1600000 in
theorem prIs6_s (s : List UInt8) (w : World) (hS : Spans w) (hlen : s.length ≤ 5000) :
    Calls Tryz.prog 64 #[.string (str s)] w fun e w' => e = .returned (.bool (nIs6 s)) ∧ Below w.heap.size w w' := by
  by_cases h0 : s = []
  · subst h0
    have z0 : (str ([] : List UInt8)).toList = [] := str_toList []
    clear hS
    go_enter Tryz.func64, Tryz.ntmps64
    go_wp2
    go_ret
    exact ⟨rfl, Below.refl _ _⟩
  · have HS := Lib.hid (prSearch_s s w hS hlen)
    obtain ⟨x, hx⟩ : ∃ x, nSearch s = x := ⟨_, rfl⟩
    rw [hx] at HS
    have HE : Hid (nIs6 s = decide (x = s)) := Lib.hid (by unfold nIs6; rw [hx, decide_eq_true h0, Bool.true_and])
    have HQ := str_beq x s
    obtain ⟨z, hz⟩ : ∃ z, decide (x = s) = z := ⟨_, rfl⟩
    rw [hz] at HQ HE
    have HZ := str_beq_nil h0
    have HZ2 : ¬ (str s).toList = [] := by rw [str_toList]; exact h0
    clear hx hz h0 hS
    go_enter Tryz.func64, Tryz.ntmps64
    go_wp2_with fail
    refine HS.out.mono ?_
    rintro e w1 ⟨rfl, hb1⟩
    go_wp2
    go_ret
    exact ⟨ret_bool HE.out.symm, hb1⟩

/-! Join. -/
def nForms (xs : List (List UInt8)) : List (List UInt8) := (xs.map nSearch).filter fun y => decide (y ≠ [])
theorem forms_cons (s : List UInt8) (xs : List (List UInt8)) : nForms (s :: xs) = if nSearch s = [] then nForms xs else nSearch s :: nForms xs := by
  unfold nForms
  rw [List.map_cons]
  by_cases h : nSearch s = []
  · rw [if_pos h, List.filter_cons_of_neg (by simpa using h)]
  · rw [if_neg h, List.filter_cons_of_pos (by simpa using h)]
theorem forms_snoc (xs : List (List UInt8)) (s : List UInt8) : nForms (xs ++ [s]) = nForms xs ++ if nSearch s = [] then [] else [nSearch s] := by
  have e : nForms (xs ++ [s]) = nForms xs ++ nForms [s] := by unfold nForms; rw [List.map_append, List.filter_append]
  rw [e, forms_cons]
  rfl
theorem join_from : ∀ (xs : List (List UInt8)) (O : List UInt8), O ≠ [] → xs.foldl (fun out s => joinStep out (nSearch s)) O = O ++ Lib.joinTail [32] (nForms xs)
  | [], O, _ => by simp [nForms, Lib.joinTail]
  | s :: xs, O, h => by
    rw [List.foldl_cons, forms_cons]
    by_cases h0 : nSearch s = []
    · rw [if_pos h0, h0, step_nil]
      exact join_from xs O h
    · rw [if_neg h0, step_both h h0, join_from xs _ (by simp)]
      simp [Lib.joinTail]
theorem join_forms : ∀ xs : List (List UInt8), nJoin xs = Lib.join (nForms xs) [32]
  | [] => rfl
  | s :: xs => by
    have e : nJoin (s :: xs) = xs.foldl (fun out s => joinStep out (nSearch s)) (joinStep [] (nSearch s)) := rfl
    rw [e, step_out, forms_cons]
    by_cases h0 : nSearch s = []
    · rw [if_pos h0, h0]
      exact join_forms xs
    · rw [if_neg h0, join_from xs _ h0, Lib.join_cons]
theorem step_len (O x : List UInt8) : (joinStep O x).length ≤ O.length + x.length + 1 := by
  unfold joinStep
  split
  · rw [List.length_append, List.length_cons]; omega
  · rw [List.length_append]; omega
theorem join_len6 : ∀ (xs : List (List UInt8)) (O : List UInt8), (∀ x ∈ xs, x.length ≤ 1000) → (xs.foldl (fun out s => joinStep out (nSearch s)) O).length ≤ O.length + xs.length * 48001
  | [], O, _ => by simp
  | s :: xs, O, h => by
    rw [List.foldl_cons, List.length_cons]
    have h1 := join_len6 xs (joinStep O (nSearch s)) fun x hx => h x (by simp [hx])
    have h2 := step_len O (nSearch s)
    have h3 := nSearch_len s
    have h4 := h s (by simp)
    omega
theorem forms_len (xs : List (List UInt8)) : (nForms xs).length ≤ xs.length := by
  unfold nForms
  have := List.length_filter_le (fun y => decide (y ≠ [])) (xs.map nSearch)
  rw [List.length_map] at this
  exact this
theorem info_string : (Tryz.prog.info? 9).map (fun i => (i.zero, i.size, i.bytes)) = some (some (.string ⟨#[]⟩), 1, 16) := by kernel_rfl
/-- append of one string. -/
theorem append_text {ops : Array Oper} {rest : List Oper} {o : Oper} {a : Act} {Q : Exit → Act → World → Prop} (w : World) (hgd : o.guard = none) (s x : Operand)
    (ho : o.op = .call { callee := .builtin .append, args := #[s, x], argTypes := #[43, 43] })
    (base : Nat) (v : Value) (xs : List (List UInt8)) (hs : a.eval s = v) (hown : w.ownsRow base 9 1 v xs.length (xs.map sv)) (y : List UInt8) (u : Value) (hu : u = sv y)
    (hx : a.eval x = .slice (some ⟨w.heap.size, 0, none⟩) 1 1) (hlen : xs.length ≤ 1000000000000 - 1) (hbase : base ≤ w.heap.size)
    (h : ∀ v' w', w'.ownsRow base 9 1 v' (xs ++ [y]).length ((xs ++ [y]).map sv) → Below base w w' → wpList Tryz.prog ops Q rest (a.put o.dst v') w') : wpList Tryz.prog ops Q (o :: rest) a (w.alloc (.cells #[u] 9)) :=
  append_one 43 9 (.string ⟨#[]⟩) 16 Tryz.underlying43 info_string rfl (by decide) one_sv w hgd s x ho base v xs hs hown y u hu hx hlen hbase h

end Go.Proofs.YtafnjbmeponobaaGreatDoor
