/-
  The program's elements of a decomposed form.
  The library's bytes.Compare, bytes.Equal over slices of bytes.
  append(s, make([]T, k)...) onto a row of the call's own.
  The program's key: its closures, level by level.
  The program's key.
-/
import Derived.Test.YtbnchnbblchmnaaGreatDoorPkBM
import Derived.Test.YtbnchnbblchmnaaGreatDoorPkBE
import Derived.Test.YtbnchnbblchmnaaGreatDoorPkBF
import Derived.Lib.BytesEntry
import Derived.Lib.Bytealg
import Derived.Test.YtbnchnbblchmnaaGreatDoorPkBL
import Derived.Lib.AppendZerosOnto
namespace Go.Proofs.YtbnchnbblchmnaaGreatDoor
open Go.RowKit

theorem mid_any {w : World} {B b o n c : Nat} {l : List Nat} (h : Arr nv w B (.slice (some ⟨b, o, none⟩) n c) l) (k m : Nat) (h1 : k < n) (h2 : k + m ≤ n) :
    (∀ W : World, (Instr.sliceAt 27 (.slice (some ⟨b, o, none⟩) n c) (some (.int .i64 (k : Int))) (some (.int .i64 ((k : Int) + (m : Int)))) none).run Tryz.prog W = .ok (.slice (some ⟨b, o + k, none⟩) m (c - k)) W) ∧ ∀ v, (∀ p : Addr, p.block < B → v.cell? p = w.cell? p) → Arr nv v B (.slice (some ⟨b, o + k, none⟩) m (c - k)) ((l.drop k).take m) := by
  have hl := h.len
  have hcap := h.cap
  refine ⟨fun W => ?_, fun v hv => ?_⟩
  · have ec : (k : Int) + (m : Int) = ((k + m : Nat) : Int) := by omega
    rw [ec, run_sliceAt_slice W _ _ _ _ _ elem_ints, run_slice_lh W _ _ n c elem_ints .i64 .i64 (k : Int) ((k + m : Nat) : Int) (by omega) (by omega) (by omega), size_elem_int]
    simp only [Result.andThen, sliced, Int.toNat_natCast, Nat.mul_one]
    rw [if_neg (by omega), Option.map_some, add_plain]
    have e : k + m - k = m := by omega
    rw [e]
  · rcases h.keep hv with ⟨e, _⟩ | ⟨a, c', e, _, hb, hc⟩
    · cases e
    · injection e with e1 e2 e3
      injection e1 with e1
      subst e1 e3
      refine .inr ⟨⟨b, o + k, none⟩, c - k, by rw [List.length_take, List.length_drop, hl, Nat.min_eq_left (by omega)], by rw [List.length_take, List.length_drop, hl]; omega, fun h0 => hb (by omega), fun i u hu => ?_⟩
      rw [List.getElem?_take] at hu
      split at hu
      · rw [List.getElem?_drop] at hu
        have := hc (k + i) u hu
        rw [add_plain] at this ⊢
        rw [Nat.add_assoc]
        exact this
      · cases hu
/-- The tertiary weight of a Text that is passed. -/
theorem cap_two : ∀ l : List Nat, l.foldl (fun m c => max m (capN c)) 2 = 2
  | [] => rfl
  | c :: l => by
    have := (cap_bound c).2
    rw [List.foldl_cons, Nat.max_eq_left this]
    exact cap_two l
theorem cap_tail : ∀ l : List Nat, l.foldl (fun m c => max m (capN c)) 1 = if decide (l = l.map lowN) = true then 1 else 2
  | [] => rfl
  | c :: l => by
    rw [List.foldl_cons, List.map_cons]
    by_cases h : lowN c = c
    · have e : capN c = 1 := by unfold capN; rw [if_pos (beq_of h)]
      rw [e, h]
      show l.foldl _ 1 = _
      rw [cap_tail l]
      by_cases h2 : l = l.map lowN
      · rw [if_pos (decide_eq_true h2), if_pos (decide_eq_true (by rw [← h2]))]
      · rw [if_neg (by rw [decide_eq_false h2]; exact Bool.false_ne_true), if_neg]
        rw [decide_eq_false (fun e => h2 (List.cons.inj e).2)]
        exact Bool.false_ne_true
    · have e : capN c = 2 := by unfold capN; rw [if_neg (by rw [beq_false h]; exact Bool.false_ne_true)]
      rw [e]
      show l.foldl _ 2 = _
      rw [cap_two, if_neg]
      rw [decide_eq_false (fun e => h (List.cons.inj e).1.symm)]
      exact Bool.false_ne_true
theorem own_drewG {w : World} {base : Nat} {v : Value} {o : List El} (h : OwnEls w base v o) : OwnEls w.drew base v o := h
/-- The first k cells of a row hold the small letters. -/
def FillTo (d : List Nat) (cs : Array Value) (k : Nat) : Prop := ∀ (j x : Nat), j < k → d[j]? = some x → cs[j]? = some (nv (lowN x))
theorem fill_next {d : List Nat} {cs : Array Value} {k x : Nat} (h : FillTo d cs k) (hk : k < cs.size) (hx : d[k]? = some x) : FillTo d (cs.setIfInBounds k (nv (lowN x))) (k + 1) := by
  intro j y hj hy
  rw [Array.getElem?_setIfInBounds]
  by_cases e : k = j
  · subst e
    rw [if_pos rfl, if_pos hk]
    rw [hx] at hy
    rw [Option.some.inj hy]
  · rw [if_neg e]
    exact h j y (by omega) hy

theorem slEqual_below (A : Option Addr) (n c : Nat) (A' : Option Addr) (n' c' : Nat) (l l' : List Nat) (w : World) (hA : Arr nv w w.heap.size (.slice A n c) l) (hA' : Arr nv w w.heap.size (.slice A' n' c') l') (hn : n ≤ 1000000) (hn' : n' ≤ 1000000) :
    Calls Tryz.prog 72 #[.slice A n c, .slice A' n' c'] w fun e w' => e = .returned (.bool (decide (l = l'))) ∧ Below w.heap.size w w' :=
  (slEqual_any A n c A' n' c' l l' w hA hA' hn hn').mono fun _ _ ⟨h1, q, h2⟩ => ⟨h1, h2 ▸ below_drewN (Below.refl _ _) q⟩

set_option maxRecDepth 100000 in
set_option maxHeartbeats 12800000 in
theorem prElements_any (A : Option Addr) (n c : Nat) (T : List LetL) (form : List UInt8) (d : List Nat) (w : World) (hS : Spans w) (hL : Ltt w w.heap.size (.slice A n c) T) (hT : LetOk T) (hd : decR form = some d) (hA : ∀ c ∈ d, Asked c) (hlen : form.length ≤ 5000) :
    Calls Tryz.prog 37 #[.slice A n c, .string (str form)] w fun e w' => ∃ A' n' c', e = .returned (.slice A' n' c') ∧ SArr 3 ev w' w'.heap.size (.slice A' n' c') (elemsL T d) ∧ n' ≤ 3 * d.length ∧ Below w.heap.size w w' := by
  have HD := Lib.hid (prDecode_any form w hS (by omega))
  rw [hd] at HD
  have hdl := dec_len hd
  have HS := Lib.hid hS
  have HLt := Lib.hid hL
  have HT := Lib.hid hT
  have HAs := Lib.hid hA
  obtain ⟨R, hR⟩ : ∃ R, elemsL T d = R := ⟨_, rfl⟩
  rw [hR]
  have HR := Lib.hid hR
  clear hd hS hL hT hA hR
  go_enter Tryz.func37, Tryz.ntmps37
  go_wp2_with fail
  refine HD.out.mono ?_
  rintro e w2 ⟨hde, k2⟩
  obtain ⟨A0, n0, c0, b', rfl, hcase⟩ := hde.form
  rcases hcase with ⟨rfl, l', hl', hn0, hA0, -⟩ | ⟨rfl, h', -⟩
  case inr => cases h'
  obtain rfl := Option.some.inj hl'
  have HN0 := Lib.hid hn0
  have hn5 : n0 ≤ 5000 := by omega
  have hmk : ∀ W, (Instr.makeSlice 27 (.int .i64 (n0 : Int)) (.int .i64 (n0 : Int))).run Tryz.prog W = .ok (.slice (some ⟨W.heap.size, 0, none⟩) n0 n0) (W.alloc (.cells (madeOf (.int .i64 0) n0) 3)) := fun W => make_ints n0 n0 (Nat.le_refl _) (by omega) W
  clear hl' hde hn0 HD hdl
  go_wp2
  go_loopw [25] (fun iv_ wr => ∃ (k : Nat) (cs : Array Value), k ≤ n0 ∧ iv_ = .int .i64 (k : Int) ∧ Box wr w2.heap.size 3 cs ∧ cs.size = n0 ∧ Hid (FillTo d cs k) ∧ Below w2.heap.size w2 wr) (fun iv_ _ => n0 - (intOf iv_).toNat)
  case atStart => exact ⟨0, _, by omega, rfl, Box.made w2 _ _, madeOf_size _ _, Lib.hid (fun j x hj => by omega), (Below.refl _ _).alloc (Nat.le_refl _) _⟩
  case round =>
    obtain ⟨k, cs, hk, rfl, hbox, hcs, HFi, hb⟩ := hrel
    have hbx := hbox.lt
    by_cases hlt : k < n0
    · have t1 : decide ((k : Int) < (n0 : Int)) = true := by simp; omega
      have t1' : decide (k < n0) = true := by simpa using hlt
      have kz : (k : Int) < (n0 : Int) := by omega
      obtain ⟨a0, o0, rfl, hA0b, hca⟩ := hA0.some_ (by omega)
      obtain ⟨x, hx⟩ : ∃ x, d[k]? = some x := ⟨_, List.getElem?_eq_getElem (by have := HN0.out; omega)⟩
      have d0 : wr.cell? ⟨a0, o0 + k, none⟩ = some (.int .i64 (x : Int)) := (hb.cell (p := ⟨a0, o0 + k, none⟩) hA0b).trans (hca k x hx)
      have f0 : wr.frozen? ⟨w2.heap.size, k, none⟩ = false := hbox.free k
      obtain ⟨ov, hov⟩ : ∃ ov, cs[k]? = some ov := ⟨_, Array.getElem?_eq_getElem (by omega)⟩
      have c0' : wr.cell? ⟨w2.heap.size, k, none⟩ = some ov := by rw [hbox.cell]; exact hov
      have HLw := Lib.hid (prLower_s (x : Int) wr)
      rw [lowI_nat] at HLw
      have HF2 := Lib.hid (fill_next HFi.out (by omega) hx)
      have hbox2 := hbox.put k (nv (lowN x))
      have hcs2 : (cs.setIfInBounds k (nv (lowN x))).size = n0 := by rw [Array.size_setIfInBounds, hcs]
      obtain ⟨y, hy⟩ : ∃ y, lowN x = y := ⟨_, rfl⟩
      rw [hy] at HLw HF2 hbox2 hcs2
      clear hca hx hov hy hcs
      go_wp2_with fail
      refine HLw.out.mono ?_
      rintro e w5 ⟨rfl, rfl⟩
      go_wp2
      go_roundw
      case rel => exact ⟨k + 1, _, by omega, by go_num, hbox2, hcs2, HF2, below_putL hb (Nat.le_refl _) _⟩
      case measure => simp [intOf]; omega
    · obtain rfl : k = n0 := by omega
      have t1 : decide ((k : Int) < (k : Int)) = false := by simp
      have t1' : decide (k < k) = false := by simp
      obtain ⟨w3, hw3⟩ : ∃ x : World, x = wr := ⟨_, rfl⟩
      subst hw3
      have hSm : Arr nv w3 w3.heap.size (.slice (some ⟨w2.heap.size, 0, none⟩) k k) (d.map lowN) := by
        have h1 := Arr.of_box (val := nv) (xs := d.map lowN) (n := k) (c := k) hbox (by rw [List.length_map, HN0.out]) (Nat.le_refl _) (fun i u hu => by
          rw [List.getElem?_map] at hu
          obtain ⟨x, hx, rfl⟩ := Option.map_eq_some_iff.1 hu
          exact HFi.out i x (by have := (List.getElem?_eq_some_iff.1 hx).1; have := HN0.out; omega) hx)
        exact h1.more hbx
      have HSm := Lib.hid hSm
      have HA3 := Lib.hid (hA0.up hb)
      have hb3 := below_next k2 hb
      have HS3 := Lib.hid (HS.out.below hb3)
      have HL3 := Lib.hid (HLt.out.up hb3)
      clear hA0 hSm hmk HFi hbox hcs
      go_wp2
      go_loopw [10, 11] (fun lv av wi => ∃ (q : Nat) (o : List El), q ≤ k ∧ av = .int .i64 (q : Int) ∧ OwnEls wi w3.heap.size lv o ∧ o.length ≤ 3 * q ∧ Hid (R = o ++ elemsL T (d.drop q)) ∧ Below w3.heap.size w3 wi) (fun _ av _ => k - (intOf av).toNat)
      case atStart => exact ⟨0, [], by omega, rfl, World.ownsRow_nil _ _ _ _, by simp, Lib.hid (by rw [← HR.out]; rfl), Below.refl _ _⟩
      case round =>
        obtain ⟨q, o, hq, rfl, hO, hol, HRo, hbi⟩ := hrel
        have hbis := hbi.size
        by_cases hlt : q < k
        · have t2 : decide ((q : Int) < (k : Int)) = true := by simp; omega
          have t2' : decide (q < k) = true := by simpa using hlt
          have qz : (q : Int) < (k : Int) := by omega
          obtain ⟨V, hVr, hVa⟩ := tail_any HSm.out q hq
          have hV1 := hVa wr (fun p hp => hbi.cell hp)
          obtain ⟨A5, c5, rfl⟩ := hV1.form
          have hdl : ((d.map lowN).drop q).length = k - q := by rw [List.length_drop, List.length_map, HN0.out]
          rw [hdl] at hV1 hVr
          rw [← List.map_drop] at hV1
          have HLg := Lib.hid (longest_any A n c A5 (k - q) c5 T (d.drop q) wr (HL3.out.up hbi) (hV1.more hbis) HT.out (by omega))
          clear hV1 hdl hVa
          go_wp2_with fail
          refine HLg.out.mono ?_
          rintro e w4 ⟨⟨Av, mv, cv, p, ok, rfl, hend⟩, k4⟩
          rcases hend with ⟨rfl, hnone⟩ | ⟨rfl, j, x, hx, hbest, hAv, rfl⟩
          · obtain ⟨V4, hV4⟩ : ∃ V4, w4.alloc (.cells #[.slice Av mv cv, .int .i64 p] 108) = V4 := ⟨_, rfl⟩
            have hb4 : Below w3.heap.size w3 w4 := hbi.trans (k4.mono hbis)
            have hbV : Below w3.heap.size w3 V4 := by rw [← hV4]; exact hb4.alloc hb4.size _
            have hOV := own_keep_below (own_keep_below hO k4) ((Below.refl w4.heap.size w4).alloc (Nat.le_refl _) (.cells #[.slice Av mv cv, .int .i64 p] 108))
            rw [hV4] at hOV
            obtain ⟨ch, hch⟩ : ∃ ch, d[q]? = some ch := ⟨_, List.getElem?_eq_getElem (by have := HN0.out; omega)⟩
            obtain ⟨a0, o0, rfl, hA0b, hca⟩ := HA3.out.some_ (by omega)
            obtain ⟨b1, o1, e1, hB1, hcb⟩ := HSm.out.some_ (by omega)
            injection e1 with e1
            injection e1 with e1 e2
            subst e1 e2
            have d0 : V4.cell? ⟨a0, o0 + q, none⟩ = some (.int .i64 (ch : Int)) := (hbV.cell (p := ⟨a0, o0 + q, none⟩) hA0b).trans (hca q ch hch)
            have d1 : V4.cell? ⟨w2.heap.size, q, none⟩ = some (.int .i64 (lowN ch : Int)) := by
              have h1 := hcb q (lowN ch) (by rw [List.getElem?_map, hch]; rfl)
              rw [Nat.zero_add] at h1
              exact (hbV.cell (p := ⟨w2.heap.size, q, none⟩) hbx).trans h1
            have hq1 := HAs.out ch (List.mem_of_getElem? hch)
            have HEl := Lib.hid (fun (v : Value) (W : World) (hW : Below w3.heap.size w3 W) (hOW : OwnEls W w3.heap.size v o) => prElem_any w3.heap.size v o ch W (HS3.out.below hW) hOW hW.size (by omega) hq1)
            have HR2 : Hid (R = (o ++ singleL ch) ++ elemsL T (d.drop (q + 1))) := Lib.hid (by
              rw [HRo.out, dropK_at hch, List.append_assoc]
              rw [dropK_at hch] at hnone
              rw [elemsL_none hnone])
            have hf3 := (ok_col hq1.has hq1.whole).few
            have hol2 : (o ++ singleL ch).length ≤ 3 * (q + 1) := by rw [List.length_append]; omega
            obtain ⟨X, hX⟩ : ∃ X, o ++ singleL ch = X := ⟨_, rfl⟩
            rw [hX] at HEl HR2 hol2
            obtain ⟨lo, hlo⟩ : ∃ lo, lowN ch = lo := ⟨_, rfl⟩
            rw [hlo] at HEl d1
            have hbD := hbV.drew
            have hOD := own_drewG hOV
            clear hnone hca hcb hch hX hlo hq1 hf3 hO
            go_wp2
            go_region_held3 (fun v => v.cell? ⟨a0, o0 + q, none⟩ = some (.int .i64 (ch : Int)) ∧ v.cell? ⟨w2.heap.size, q, none⟩ = some (.int .i64 (lo : Int))) (first | exact ⟨d0, d1⟩ | exact ⟨d5, d6⟩)
              (first | (go_at_call 73; (with_reducible refine (HEl.out _ _ hbD hOD).mono ?_); rintro e w5 ⟨v5, rfl, hO5, hB5⟩; have d5 := (hB5.cell (p := ⟨a0, o0 + q, none⟩) hA0b).trans d0; have d6 := (hB5.cell (p := ⟨w2.heap.size, q, none⟩) hbx).trans d1))
            all_goals
              go_wp2
              go_roundw
              case rel => exact ⟨q + 1, X, by omega, by go_num, hO5, hol2, HR2, hbD.trans hB5⟩
              case measure => simp [intOf]; omega
          · obtain ⟨_, -, -, hm0, -, hml⟩ := best_some hbest
            simp only at hm0 hml
            have hmv := hAv.len
            rw [List.length_drop, ← HN0.out, hmv] at hml
            rw [hmv] at hm0
            have hqm : q + mv ≤ k := by omega
            have HM := Lib.hid hmv
            obtain ⟨hpa, -⟩ := af_weight (HT.out.after x (List.mem_of_getElem? hx)).1 (HT.out.after x (List.mem_of_getElem? hx)).2
            obtain ⟨pw, hpw⟩ : ∃ pw, lwN x.2 + j + 1 = pw := ⟨_, rfl⟩
            rw [hpw]
            obtain ⟨V4, hV4⟩ : ∃ V4, w4.alloc (.cells #[.slice Av mv cv, .int .i64 (pw : Int)] 108) = V4 := ⟨_, rfl⟩
            have hb4 : Below w3.heap.size w3 w4 := hbi.trans (k4.mono hbis)
            have hbV : Below w3.heap.size w3 V4 := by rw [← hV4]; exact hb4.alloc hb4.size _
            have hOV := own_keep_below (own_keep_below hO k4) ((Below.refl w4.heap.size w4).alloc (Nat.le_refl _) (.cells #[.slice Av mv cv, .int .i64 (pw : Int)] 108))
            rw [hV4] at hOV
            have hboxV := Box.made w4 108 #[.slice Av mv cv, .int .i64 (pw : Int)]
            rw [hV4] at hboxV
            have e0 : V4.cell? ⟨w4.heap.size, 0, none⟩ = some (.slice Av mv cv) := hboxV.cell 0
            have e1 : V4.cell? ⟨w4.heap.size, 1, none⟩ = some (.int .i64 (pw : Int)) := hboxV.cell 1
            obtain ⟨a0, o0, rfl, hA0b, -⟩ := HA3.out.some_ (by omega)
            obtain ⟨hr1, ha1⟩ := mid_any HA3.out q mv hlt hqm
            obtain ⟨hr2, ha2⟩ := mid_any HSm.out q mv hlt hqm
            rw [Nat.zero_add] at hr2 ha2
            have hE1 := ha1 V4 (fun p hp => hbV.cell hp)
            have hE2 := ha2 V4 (fun p hp => hbV.cell hp)
            have hVs := hbV.size
            have HEq := Lib.hid (fun (W : World) (hW : Below V4.heap.size V4 W) => slEqual_below _ mv _ _ mv _ _ _ W ((hE1.more hVs).up hW) ((hE2.more hVs).up hW) (by omega) (by omega))
            have s1 : IntKind.i64.wrap ((q : Int) + (mv : Int)) = (q : Int) + (mv : Int) := wraps_i64 _ (by omega) (by omega)
            have HL2 : Hid (((d.map lowN).drop q).take mv = ((d.drop q).take mv).map lowN) := Lib.hid (by rw [List.map_take, List.map_drop])
            rw [HL2.out] at HEq
            obtain ⟨bq, hbq⟩ : ∃ bq, decide ((d.drop q).take mv = ((d.drop q).take mv).map lowN) = bq := ⟨_, rfl⟩
            have hct := cap_tail ((d.drop q).take mv)
            rw [hbq] at HEq hct
            obtain ⟨tz, htz⟩ : ∃ tz : Nat, (if bq = true then 1 else 2) = tz := ⟨_, rfl⟩
            have HO1 := Lib.hid (fun W => prOneIf_any bq W)
            have hi1 : (if bq = true then (1 : Int) else 2) = (tz : Int) := by rw [← htz]; split <;> rfl
            rw [hi1] at HO1
            have HR2 : Hid (R = (o ++ [(pw, 1, tz)]) ++ elemsL T (d.drop (q + mv))) := Lib.hid (by
              rw [HRo.out, elemsL_some hbest, List.append_assoc]
              unfold tailEl
              rw [hx, hmv]
              show o ++ ((primOf x.2 + j + 1, 1, ((d.drop q).take mv).foldl (fun m c => max m (capN c)) 1) :: elemsL T ((d.drop q).drop mv)) = _
              rw [hpa, hpw, hct, htz, List.drop_drop]
              rfl)
            have hol2 : (o ++ [(pw, 1, tz)]).length ≤ 3 * (q + mv) := by rw [List.length_append]; simp; omega
            have hol3 : o.length ≤ 1000000000000 - 1 := by omega
            have hOD := own_drewG hOV
            have hqz : (q : Int) < (k : Int) := by omega
            clear hO hOV hmv hpw hx hbest hAv hpa hbq hct htz hi1 ha1 ha2 hE1 hE2 hml
            go_wp2
            have hbD := (Below.refl V4.heap.size V4).drew
            have hboxD := hboxV.drew
            go_region_held3 (fun v => v.cell? ⟨w4.heap.size, 1, none⟩ = some (.int .i64 (pw : Int))) (first | exact e1 | exact e5 | exact e6 | exact e7)
              (first
                | (go_at_call 72; (with_reducible refine (HEq.out _ hbD).mono ?_); rintro e w5 ⟨rfl, k5⟩; have hO5 := own_keep_below hOD k5; have hb5 := hbV.drew.trans (k5.mono hVs); have hbox5 := hboxD.below k5 hboxD.lt; have e5 := hbox5.cell 1)
                | (go_at_call 71; (with_reducible refine (HO1.out _).mono ?_); rintro e w6 ⟨rfl, rfl⟩; have hO6 := own_keep_below hO5 ((Below.refl (w5).heap.size (w5)).alloc (Nat.le_refl _) (.cells (ev (pw, 1, tz)).toArray 71)); have hc6 := cells_made (cs := ev (pw, 1, tz)) (w5) 71; have hb6 := hb5.alloc hb5.size (.cells (ev (pw, 1, tz)).toArray 71); have hbs6 := hb6.size; have hbox6 := hbox5.alloc (.cells (ev (pw, 1, tz)).toArray 71); have e6 := hbox6.cell 1)
                | (refine step_struct_g (val := ev) 66 71 (.agg #[.int .i64 0, .int .i64 0, .int .i64 0]) 24 Tryz.underlying66 info_pel rfl (by decide) (by decide) ev_len ev_one ((w5).alloc (.cells (ev (pw, 1, tz)).toArray 71)) (by rfl) (.tmp 54) (.tmp 68) (by rfl) w3.heap.size _ o (by rfl) hO6 (pw, 1, tz) ⟨w5.heap.size, 0, none⟩ (by rfl) hc6 hol3 hbs6 ?_; intro r3 w7 hown7 hg7; have hbox7 := box_apart hbox6 hO6 (by decide) hg7; have e7 := hbox7.cell 1))
            all_goals
              have hb7 := below_own hO6 hbs6 hg7
              go_wp2
              go_roundw
              case rel => exact ⟨q + mv, o ++ [(pw, 1, tz)], by omega, by go_num, hown7, hol2, HR2, hb6.trans hb7⟩
              case measure => simp [intOf]; omega
        · obtain rfl : q = k := by omega
          have t2 : decide ((q : Int) < (q : Int)) = false := by simp
          have t2' : decide (q < q) = false := by simp
          have HE : Hid (R = o) := Lib.hid (by rw [HRo.out, List.drop_of_length_le (by rw [HN0.out]; exact Nat.le_refl _), elemsL_nil, List.append_nil])
          have hS4 := SArr.of_own ev_len hO
          obtain ⟨A4, c4, h4⟩ := hS4.form
          subst h4
          go_wp2
          go_ret
          rw [HE.out]
          exact ⟨_, _, _, rfl, hS4, by rw [← HN0.out]; exact hol, below_next hb3 hbi⟩

end Go.Proofs.YtbnchnbblchmnaaGreatDoor

namespace Go.Proofs.YtbnchnbblchmnaaGreatDoor
open Go.RowKit

theorem ordB_compare : ∀ a b : List UInt8, Lib.compareBytes a b = ordB a b
  | [], [] => rfl
  | [], _ :: _ => rfl
  | _ :: _, [] => rfl
  | x :: a, y :: b => by
    have ih := ordB_compare a b
    unfold ordB at ih ⊢
    unfold Lib.compareBytes
    rw [List.map_cons, List.map_cons, ordL_cons, ← ih]
    rfl
theorem bytes_of {P : Program} {w : World} {B : Nat} {v : Value} {bs : List UInt8} (h : Arr bv w B v bs) : (Extern.Bytes.bytesOf v).run P w = .ok (str bs) w := by
  rcases h with ⟨rfl, rfl⟩ | ⟨a, c, rfl, _, _, hc⟩
  · rfl
  · show (Extern.Bytes.loadBytes a bs.length .empty).run P w = _
    have h1 := Lib.run_loadBytesX (P := P) w (bs.map fun u => (u.toNat : Int)) a .empty fun j x hj => by
      rw [List.getElem?_map] at hj
      obtain ⟨u, hu, rfl⟩ := Option.map_eq_some_iff.1 hj
      exact hc j u hu
    rw [List.length_map] at h1
    rw [h1]
    have e2 : Lib.bytesOf (bs.map fun u => (u.toNat : Int)) = bs := by
      unfold Lib.bytesOf
      rw [List.map_map]
      conv => rhs; rw [← List.map_id bs]
      apply List.map_congr_left
      intro a _
      simp
    rw [e2]
    congr 1
    apply ByteArray.ext
    show (#[] : Array UInt8) ++ bs.toArray = (str bs).data
    simp [str]

theorem str_eqB (a b : List UInt8) : ((str a).toList == (str b).toList) = decide (a = b) := by
  rw [str_toList, str_toList]
  by_cases h : a = b
  · rw [decide_eq_true h, h]; simp
  · rw [decide_eq_false h]; simpa using h

end Go.Proofs.YtbnchnbblchmnaaGreatDoor

namespace Go.Proofs.YtbnchnbblchmnaaGreatDoor
open Go.RowKit

theorem run_append_zeros_own {P : Program} (w : World) (base : Nat) (t tn ty e : TypeId) (i : TypeInfo) (z : Value) (bytes : Nat) (kn : IntKind) (ht : P.underlying t = some (.slice e)) (htn : P.underlying tn = some (.int kn)) (hi : P.info? e = some i) (hz : i.zero = some z)
    (hsize : i.size = 1) (hzs : z.cells.size = 1) (hby : i.bytes = bytes) (v : Value) (n : Nat) (xs : List Value) (hown : w.ownsRow base e 1 v n xs)
    (k : Nat) (h0 : 0 < k) (Z : List Value) (hZ : Builtin.zeroCells z.cells k = Z.toArray) (hZl : Z.length = k) (hZ1 : ∀ u ∈ Z, u.oneCell' = true)
    (hlen : n + k ≤ 1000000000000) (hbytes : bytes ≤ 100) (hbase : base ≤ w.heap.size) :
    ∃ v' w', (Builtin.append_ #[t, tn] ty #[v, .int .i64 (k : Int)]).run P w = .ok v' w' ∧ w'.ownsRow base e 1 v' (n + k) (xs ++ Z) ∧ w.grownBy w' v.ownBlock := by
  have h63 : n + k ≤ maxLen := by unfold maxLen; omega
  have hbb : (n + k) * bytes ≤ 140737488355328 := by have := Nat.mul_le_mul hlen hbytes; omega
  have hkb : k * i.bytes ≤ 281474976710656 := by
    rw [hby]
    have := Nat.mul_le_mul_right bytes (show k ≤ n + k by omega)
    omega
  have hll : (xs ++ Z).length = (n + k) * 1 := by rw [List.length_append, hown.1, hZl]; omega
  have grown : ∀ (old : Nat), old < n + k → ∀ (row : Option Nat),
      (w.drew.alloc (.cells (xs.toArray ++ Builtin.zeroCells z.cells k ++ Builtin.zeroCells z.cells (grownCap w (n + k) old e - (n + k))) e)).ownsRow base e 1
        (.slice (some ⟨w.heap.size, 0, none⟩) (n + k) (grownCap w (n + k) old e)) (n + k) (xs ++ Z) ∧
      w.grownBy (w.drew.alloc (.cells (xs.toArray ++ Builtin.zeroCells z.cells k ++ Builtin.zeroCells z.cells (grownCap w (n + k) old e - (n + k))) e)) row := by
    intro old ho row
    have hge := grownCap_ge w (n + k) old e
    have hcm : grownCap w (n + k) old e ≤ maxLen := grownCap_le_maxLen w (n + k) old e h63
    refine ⟨⟨hll, .inr ⟨w.heap.size, _, _, rfl, hbase, heap_alloc_new w.drew _, hge, hcm, ?_, ?_⟩⟩, ⟨rfl, rfl, rfl, by simp, fun j hj _ => Below.heap_alloc w.drew _ j hj⟩⟩
    · simp only [Array.size_append, List.size_toArray, size_zeroCells, hzs, hown.1]
      omega
    · rw [hZ]
      simp only [Array.toList_append, List.append_assoc]
      rw [← List.append_assoc, ← hll]
      exact List.take_left
  rcases hown.2 with ⟨rfl, rfl⟩ | ⟨g, cap, cur, rfl, hbg, hg, hnc, hcm, hcs, htake⟩
  · have hx : xs = [] := List.eq_nil_of_length_eq_zero (by simpa using hown.1)
    subst hx
    have hr := Lib.run_append_nil_zeros (P := P) w t tn ty e i z .i64 kn ht htn hi hz k h0 (by omega) (by omega) hkb
    have hgr := grown 0 (by omega) (Value.ownBlock (.slice none 0 0))
    simp only [Nat.zero_add, List.nil_append, Array.empty_append] at hgr ⊢
    exact ⟨_, _, hr, hgr.1, hgr.2⟩
  · by_cases hroom : n + k ≤ cap
    · have hfit : n * i.size + Z.length ≤ cur.size := by rw [hsize, hcs, hZl]; omega
      have hst := run_storeCells_at P g (n * i.size) e Z 0 cur w hg (by simpa using hfit) hZ1
      simp only [Nat.add_zero] at hst
      have hw : IntKind.i64.wrap (k : Int) = k := wraps_i64 _ (by omega) (by omega)
      have hneg : ¬ ((k : Int) < 0) := by omega
      have h48i : ¬ (281474976710656 < (k : Int) * (i.bytes : Int)) := by
        rw [← Int.natCast_mul]
        omega
      have hns : ¬ (k * i.size = 0) := Nat.mul_ne_zero (by omega) (by omega)
      have hr : (Builtin.append_ #[t, tn] ty #[.slice (some ⟨g, 0, none⟩) n cap, .int .i64 (k : Int)]).run P w = .ok (.slice (some ⟨g, 0, none⟩) (n + k) cap) (w.setRow g (cur.toList.take (n * i.size) ++ Z ++ cur.toList.drop (n * i.size + Z.length)).toArray) := by
        simp [Builtin.append_, run_underlying ht, run_underlying htn, sizeOf, typeInfo, zeroValue, hi, hz, asInt, asIntOf, hw, hneg, h48i, hns, hroom, hZ, Addr.add_lit, hst]
      refine ⟨_, _, hr, ⟨hll, .inr ⟨g, cap, _, rfl, hbg, setRow_heap w g cur _ e _ hg, hroom, hcm, ?_, ?_⟩⟩, ⟨rfl, rfl, rfl, by simp, fun k _ hk => setRow_other w g k _ (fun e => hk (by simp [Value.ownBlock, e]))⟩⟩
      · simp only [List.size_toArray, List.length_append, List.length_take, List.length_drop, Array.length_toList]
        omega
      · rw [hsize, htake, ← hll]
        exact List.take_left
    · have holds : ∀ j u, xs[j]? = some u → w.cell? ((⟨g, 0, none⟩ : Addr).add j) = some u := hown.cells (g := g) rfl
      have hf := run_firstCells_some (P := P) w.drew i.size n ⟨g, 0, none⟩ n cap xs (by rw [hsize]; exact hown.1) holds
      have hr := Lib.run_append_grow_zeros (P := P) w t tn ty e i z .i64 kn ht htn hi hz (some ⟨g, 0, none⟩) n cap xs hf k h0 (by omega) (by omega) (by omega) hkb (by rw [hby]; exact growslice_fits (by omega) hbb)
      have hgr := grown cap (by omega) (Value.ownBlock (.slice (some ⟨g, 0, none⟩) n cap))
      exact ⟨_, _, hr, hgr.1, hgr.2⟩

end Go.Proofs.YtbnchnbblchmnaaGreatDoor

namespace Go.Proofs.YtbnchnbblchmnaaGreatDoor
open Go.RowKit

theorem Arr.form3 {α : Type} {val : α → Value} {w : World} {B : Nat} {v : Value} {xs : List α} (h : Arr val w B v xs) : ∃ A n c, v = .slice A n c := by
  obtain ⟨A, c, e⟩ := h.form
  exact ⟨A, _, c, e⟩
theorem info_u8k : (Tryz.prog.info? 5).map (fun i => (i.zero, i.size, i.bytes)) = some (some (.int .u8 0), 1, 1) := by kernel_rfl
/-- The captured b: its block, its bytes. -/
structure Buf (w : World) (P : Nat) (v : Value) (bs : List UInt8) : Prop where
  box : Box w P 75 #[v]
  own : w.ownsRow (P + 1) 5 1 v bs.length (bs.map bv)
def EndBuf (w : World) (P : Nat) (bs : List UInt8) (e : Ending) (w' : World) : Prop := e = .returned (.tuple #[]) ∧ (∃ v, Buf w' P v bs) ∧ Below P w w'
theorem Buf.alloc {w : World} {P : Nat} {v : Value} {bs : List UInt8} (h : Buf w P v bs) (o : Obj) : Buf (w.alloc o) P v bs := ⟨h.box.alloc o, own_keep_below h.own ((Below.refl _ _).alloc (Nat.le_refl _) o)⟩
theorem Buf.store {w : World} {P : Nat} {v : Value} {u : Value} {bs : List UInt8} (hb : Box w P 75 #[u]) (h : w.ownsRow (P + 1) 5 1 v bs.length (bs.map bv)) : Buf (w.setCell ⟨P, 0, none⟩ v) P v bs :=
  ⟨hb.put 0 v, own_sameG h fun g hg => Below.heap_setCell w ⟨P, 0, none⟩ v g (by have := (own_blockG h hg).1; show g ≠ P; omega)⟩
theorem u8_of {p k : Nat} (h : k = p % 256) : ((k : Nat) : Int) = ((UInt8.ofNat p).toNat : Int) := by
  rw [UInt8.toNat_ofNat', h]
def evV (e : El) : Value := .agg #[.int .i64 (e.1 : Int), .int .i64 (e.2.1 : Int), .int .i64 (e.2.2 : Int)]
def putPrim (e : El) : List UInt8 := if e.1 = 0 then [] else (three e.1).map UInt8.ofNat
def putSec (e : El) : List UInt8 := [UInt8.ofNat e.2.1]
def putTer (e : El) : List UInt8 := [UInt8.ofNat e.2.2]
/-- An element that can be written. -/
def okE (e : El) : Prop := e.1 ≤ 10000041 ∧ 1 ≤ e.2.1 ∧ e.2.1 ≤ 255 ∧ 1 ≤ e.2.2 ∧ e.2.2 ≤ 2

theorem zeros_bv (k : Nat) : (List.replicate k (0 : UInt8)).map bv = List.replicate k (.int .u8 0) := by rw [List.map_replicate]; rfl
theorem zeros_len (bs : List UInt8) (z : Nat) : bs.length + z = (bs ++ List.replicate z (0 : UInt8)).length := by simp
theorem elem_snoc (put : El → List UInt8) {els : List El} {k : Nat} {e : El} (h : els[k]? = some e) : (els.take (k + 1)).flatMap put = (els.take k).flatMap put ++ put e := by
  rw [take_next h, List.flatMap_append]
  simp
theorem put_len3 (e : El) : (putPrim e).length ≤ 3 ∧ (putSec e).length ≤ 3 ∧ (putTer e).length ≤ 3 := by
  refine ⟨?_, by simp [putSec], by simp [putTer]⟩
  unfold putPrim
  split
  · simp
  · simp [three]
theorem puts_len {put : El → List UInt8} (hp : ∀ e, (put e).length ≤ 3) : ∀ l : List El, (l.flatMap put).length ≤ 3 * l.length
  | [] => by simp
  | e :: l => by
    have h1 := hp e
    have h2 := puts_len hp l
    rw [List.flatMap_cons, List.length_append, List.length_cons]
    omega

end Go.Proofs.YtbnchnbblchmnaaGreatDoor

namespace Go.Proofs.YtbnchnbblchmnaaGreatDoor
open Go.RowKit

def keyB (t : List RuleL) (s : List UInt8) : List UInt8 := (keyN (elsT t s) (nD s)).map UInt8.ofNat
theorem prim_flat : ∀ l : List El, ((primL l).flatMap three).map UInt8.ofNat = l.flatMap putPrim
  | [] => rfl
  | e :: l => by
    have ih := prim_flat l
    rw [List.flatMap_cons, ← ih]
    unfold primL putPrim
    rw [List.map_cons]
    by_cases h : e.1 = 0
    · rw [if_pos h, List.filter_cons_of_neg (by rw [h]; decide)]
      rfl
    · rw [if_neg h, List.filter_cons_of_pos (by rw [beq_false h]; rfl), List.flatMap_cons, List.map_append]
theorem sec_flat (l : List El) : (secL l).map UInt8.ofNat = l.flatMap putSec := by
  unfold secL putSec
  rw [List.map_map]
  induction l with
  | nil => rfl
  | cons e l ih => rw [List.map_cons, ih, List.flatMap_cons]; rfl
theorem ter_flat (l : List El) : (terL l).map UInt8.ofNat = l.flatMap putTer := by
  unfold terL putTer
  rw [List.map_map]
  induction l with
  | nil => rfl
  | cons e l ih => rw [List.map_cons, ih, List.flatMap_cons]; rfl
theorem nats_bytes (l : List UInt8) : (l.map fun x => x.toNat).map UInt8.ofNat = l := by
  rw [List.map_map]
  conv => rhs; rw [← List.map_id l]
  apply List.map_congr_left
  intro a _
  simp
theorem keyB_eq (t : List RuleL) (s : List UInt8) : keyB t s = ((((([] ++ (elsT t s).flatMap putPrim ++ List.replicate 3 0) ++ (elsT t s).flatMap putSec ++ List.replicate 1 0) ++ (elsT t s).flatMap putTer ++ List.replicate 1 0)) ++ nD s) := by
  unfold keyB keyN
  rw [List.map_append, prim_flat, List.map_append, List.map_append, sec_flat, List.map_cons, List.map_append, ter_flat, List.map_cons, nats_bytes]
  have e3 : (three 0).map UInt8.ofNat = List.replicate 3 0 := by kernel_rfl
  have e1 : UInt8.ofNat 0 = 0 := rfl
  rw [e3, e1]
  simp [List.append_assoc]
theorem strCells_str (f : List UInt8) : Lib.strCells (str f) = f.map bv := by
  unfold Lib.strCells str bv
  simp

end Go.Proofs.YtbnchnbblchmnaaGreatDoor
