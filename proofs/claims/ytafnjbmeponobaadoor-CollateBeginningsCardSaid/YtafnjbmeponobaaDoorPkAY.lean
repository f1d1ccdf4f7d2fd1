/-
  The program's prepare: the letters of a tailoring with their characters and weights.
  The program's elements of a decomposed form.
  The library's bytes.Compare, bytes.Equal over slices of bytes.
-/
import Derived.Test.YtafnjbmeponobaaDoorPkAT
import Derived.Test.YtafnjbmeponobaaDoorPkAX
import Derived.Test.YtafnjbmeponobaaDoorPkAG
import Derived.Test.YtafnjbmeponobaaDoorPkAI
import Derived.Lib.BytesEntry
import Derived.Lib.Bytealg
namespace Go.Proofs.YtafnjbmeponobaaDoor
open Go.RowKit

theorem tlv_one {y : Value × Nat} (h : y.1.oneCell' = true) : ∀ u ∈ tlv y, u.oneCell' = true := by
  intro u hu
  simp only [tlv, List.mem_cons, List.not_mem_nil, or_false] at hu
  rcases hu with rfl | rfl
  · exact h
  · rfl
/-- A letter that is kept: its Text a slice. -/
abbrev Tl := (Option Addr × Nat × Nat) × Nat
def tlw (y : Tl) : List Value := [.slice y.1.1 y.1.2.1 y.1.2.2, .int .i64 (y.2 : Int)]
theorem tlw_len (y : Tl) : (tlw y).length = 2 := rfl
theorem tlw_one (y : Tl) : ∀ u ∈ tlw y, u.oneCell' = true := by
  intro u hu
  simp only [tlw, List.mem_cons, List.not_mem_nil, or_false] at hu
  rcases hu with rfl | rfl <;> rfl
theorem info_tail : (Tryd.prog.info? 54).map (fun i => (i.zero, i.size, i.bytes)) = some (some (.agg #[.slice none 0 0, .int .i64 0]), 2, 32) := by kernel_rfl
def PrepTo (w : World) (base : Nat) (t : List RuleL) (ys : List Tl) : Prop :=
  ∀ (i : Nat) (y : Tl) (x : RuleL), ys[i]? = some y → t[i]? = some x → w.ownsRow base 3 1 (.slice y.1.1 y.1.2.1 y.1.2.2) (nL x.1).length ((nL x.1).map nv) ∧ y.2 = lwN (letL x).2 + i + 1
theorem PrepTo.keep {w w' : World} {base : Nat} {t : List RuleL} {ys : List Tl} (h : PrepTo w base t ys) (hk : ∀ (v : Value) (n : Nat) (xs : List Value), w.ownsRow base 3 1 v n xs → w'.ownsRow base 3 1 v n xs) : PrepTo w' base t ys :=
  fun i y x hy hx => ⟨hk _ _ _ (h i y x hy hx).1, (h i y x hy hx).2⟩
theorem PrepTo.next {w : World} {base : Nat} {t : List RuleL} {ys : List Tl} {y : Tl} {x : RuleL} (h : PrepTo w base t ys) (hx : t[ys.length]? = some x) (h1 : w.ownsRow base 3 1 (.slice y.1.1 y.1.2.1 y.1.2.2) (nL x.1).length ((nL x.1).map nv)) (h2 : y.2 = lwN (letL x).2 + ys.length + 1) : PrepTo w base t (ys ++ [y]) := by
  intro i z u hz hu
  rcases Nat.lt_trichotomy i ys.length with hi | hi | hi
  · rw [List.getElem?_append_left hi] at hz
    exact h i z u hz hu
  · subst hi
    rw [List.getElem?_append_right (Nat.le_refl _), Nat.sub_self] at hz
    simp at hz
    subst hz
    rw [hx] at hu
    rw [← Option.some.inj hu]
    exact ⟨h1, h2⟩
  · have := (List.getElem?_eq_some_iff.1 hz).1
    simp at this
    omega
theorem PrepTo.all {w : World} {base : Nat} {t : List RuleL} {ys : List Tl} {v : Value} (h : PrepTo w base t ys) (hown : w.ownsRow base 54 2 v ys.length (ys.flatMap tlw)) (hl : ys.length = t.length) : Ltt w w.heap.size v (t.map letL) := by
  refine ⟨ys.map fun y => (.slice y.1.1 y.1.2.1 y.1.2.2, y.2), ?_, by rw [List.length_map, List.length_map, hl], fun i y x hy hx => ?_⟩
  · have e : ys.flatMap tlw = (ys.map fun y => ((.slice y.1.1 y.1.2.1 y.1.2.2 : Value), y.2)).flatMap tlv := by rw [List.flatMap_map]; rfl
    rw [e] at hown
    refine SArr.of_own tlv_len (base := base) (e := 54) ?_
    rw [List.length_map]
    exact hown
  · rw [List.getElem?_map] at hy hx
    obtain ⟨y', hy', rfl⟩ := Option.map_eq_some_iff.1 hy
    obtain ⟨x', hx', rfl⟩ := Option.map_eq_some_iff.1 hx
    obtain ⟨h1, h2⟩ := h i y' x' hy' hx'
    exact ⟨Arr.of_own h1, h2⟩
theorem let_weight {t : List RuleL} (hv : validT t = true) {x : RuleL} (hx : x ∈ t) : 97 ≤ (letL x).2 ∧ (letL x).2 ≤ 100000 ∧ lwN (letL x).2 ≤ 10000000 := by
  obtain ⟨h1, h2⟩ := (valid_let hv).after (letL x) (List.mem_map.2 ⟨x, hx, rfl⟩)
  obtain ⟨h3, h4⟩ := af_weight h1 h2
  have h5 := (ok_of_has h1.has).1
  have h6 := prim_bound h1.has h1.whole
  omega

set_option maxRecDepth 100000 in
set_option maxHeartbeats 6400000 in
theorem prPrepare_any (A : Option Addr) (n c : Nat) (t : List RuleL) (w : World) (hS : Spans w) (h : SArr 2 rv w w.heap.size (.slice A n c) t) (hv : validT t = true) :
    Calls Tryd.prog 18 #[.slice A n c] w fun e w' => ∃ A' n' c', e = .returned (.slice A' n' c') ∧ Ltt w' w'.heap.size (.slice A' n' c') (t.map letL) ∧ Below w.heap.size w w' := by
  have HL := Lib.hid h.len
  have hfew : n ≤ 40 := by
    have := (valid_let hv).few
    rw [List.length_map, h.len] at this
    exact this
  have HF := Lib.hid (let_facts hv)
  have HWt := Lib.hid (fun (x : RuleL) (hx : x ∈ t) => let_weight hv hx)
  have HS := Lib.hid hS
  clear hS hv
  go_enter Tryd.func18, Tryd.ntmps18
  go_wp2
  go_loopw [3, 12] (fun lv iv_ wr => ∃ (k : Nat) (ys : List Tl), k ≤ n ∧ iv_ = .int .i64 (k : Int) ∧ Hid (ys.length = k) ∧ wr.ownsRow w.heap.size 54 2 lv ys.length (ys.flatMap tlw) ∧ Hid (PrepTo wr w.heap.size t ys) ∧ Below w.heap.size w wr) (fun _ iv_ _ => n - (intOf iv_).toNat)
  case atStart => exact ⟨0, [], by omega, rfl, Lib.hid rfl, World.ownsRow_nil _ _ _ _, Lib.hid (fun i y x hy => by simp at hy), Below.refl _ _⟩
  case round =>
    obtain ⟨k, ys, hk, rfl, HY, hown, HP, hb⟩ := hrel
    by_cases hlt : k < n
    · have t1 : decide ((k : Int) < (n : Int)) = true := by simp; omega
      have t1' : decide (k < n) = true := by simpa using hlt
      have kz : (k : Int) < (n : Int) := by omega
      obtain ⟨b0, p0, rfl, hB0, hc0⟩ := lets_cells h (by omega)
      obtain ⟨x, hx⟩ : ∃ x, t[k]? = some x := ⟨_, List.getElem?_eq_getElem (by have := HL.out; omega)⟩
      have d0 := (hb.cell (p := ⟨b0, p0 + k * 2, none⟩) hB0).trans (hc0 k x hx).1
      have d1 := (hb.cell (p := ⟨b0, p0 + k * 2 + 1, none⟩) hB0).trans (hc0 k x hx).2
      obtain ⟨f1, f2, f3, f4, f5, f6⟩ := HF.out x (List.mem_of_getElem? hx)
      obtain ⟨g1, g2, g3⟩ := HWt.out x (List.mem_of_getElem? hx)
      have HX := Lib.hid hx
      have HD1 := Lib.hid fun (W : World) (hW : Below w.heap.size w W) => prDecode_any x.1 W (HS.out.below hW) (by omega)
      have HD2 := Lib.hid fun (W : World) (hW : Below w.heap.size w W) => prDecode_any x.2 W (HS.out.below hW) (by omega)
      rw [f1] at HD1
      rw [f4] at HD2
      obtain ⟨x1, x2⟩ := x
      obtain ⟨a, ha⟩ : ∃ a, (letL (x1, x2)).2 = a := ⟨_, rfl⟩
      rw [ha] at HD2 g1 g2 g3
      have HA := Lib.hid ha
      have HW := Lib.hid (fun W => prWeight_any (a : Int) W (by omega) (by omega))
      rw [lw_eq g1] at HW
      obtain ⟨pw, hpw⟩ : ∃ pw, lwN a = pw := ⟨_, rfl⟩
      rw [hpw] at HW g3
      have HPw := Lib.hid hpw
      have hbV : Below w.heap.size w (wr.alloc (.cells #[.string (str x1), .string (str x2)] 48)) := below_new hb _
      have hownV := own_keep_below hown ((Below.refl wr.heap.size wr).alloc (Nat.le_refl _) (.cells #[.string (str x1), .string (str x2)] 48))
      have HPV := Lib.hid (HP.out.keep (w' := wr.alloc (.cells #[.string (str x1), .string (str x2)] 48)) fun v n xs h => own_keep_below h ((Below.refl wr.heap.size wr).alloc (Nat.le_refl _) _))
      have hboxV := Box.made wr 48 #[.string (str x1), .string (str x2)]
      obtain ⟨V, hV⟩ : ∃ V, wr.alloc (.cells #[.string (str x1), .string (str x2)] 48) = V := ⟨_, rfl⟩
      have hVs : V.heap.size = wr.heap.size + 1 := by rw [← hV]; simp
      rw [hV] at hbV hownV HPV hboxV
      have e0 : V.cell? ⟨wr.heap.size, 0, none⟩ = some (.string (str x1)) := hboxV.cell 0
      have e1 : V.cell? ⟨wr.heap.size, 1, none⟩ = some (.string (str x2)) := hboxV.cell 1
      have s1 : IntKind.i64.wrap ((pw : Int) + (k : Int)) = (pw : Int) + (k : Int) := wraps_i64 _ (by omega) (by omega)
      have s2 : IntKind.i64.wrap ((pw : Int) + (k : Int) + 1) = (pw : Int) + (k : Int) + 1 := wraps_i64 _ (by omega) (by omega)
      clear hc0 hx f1 f2 f4 ha hpw hown HP
      go_wp2_with fail
      refine (HD1.out _ hbV).mono ?_
      rintro e w5 ⟨hde, k5⟩
      obtain ⟨A2, n2, c2, b', rfl, hcase⟩ := hde.form
      rcases hcase with ⟨rfl, l', hl', hn2, -, hO2⟩ | ⟨rfl, h', -⟩
      case inr => cases h'
      obtain rfl := Option.some.inj hl'
      have hO5 := own_less (show w.heap.size ≤ V.heap.size from hbV.size) hO2
      have e5 : w5.cell? ⟨wr.heap.size, 1, none⟩ = some (.string (str x2)) := (k5.cell (p := ⟨wr.heap.size, 1, none⟩) (by show wr.heap.size < V.heap.size; omega)).trans e1
      have hown5 := own_keep_below hownV k5
      have HP5 := Lib.hid (HPV.out.keep fun v n xs h => own_keep_below h k5)
      have hb5 : Below w.heap.size w w5 := below_next hbV k5
      clear hde hl' hO2 hownV HPV e0 e1 hn2
      go_wp2_with fail
      refine (HD2.out _ hb5).mono ?_
      rintro e w6 ⟨hde, k6⟩
      obtain ⟨A3, n3, c3, b', rfl, hcase⟩ := hde.form
      rcases hcase with ⟨rfl, l', hl', hn3, hA3, -⟩ | ⟨rfl, h', -⟩
      case inr => cases h'
      obtain rfl := Option.some.inj hl'
      obtain rfl : n3 = 1 := hn3
      obtain ⟨a3, q3, rfl, hA3b, hc3⟩ := hA3.some_ (by decide)
      have d2 : w6.cell? ⟨a3, q3, none⟩ = some (.int .i64 (a : Int)) := hc3 0 a rfl
      have hO6 := own_keep_below hO5 k6
      have hown6 := own_keep_below hown5 k6
      have HP6 := Lib.hid (HP5.out.keep fun v n xs h => own_keep_below h k6)
      have hb6 : Below w.heap.size w w6 := below_next hb5 k6
      have hb6s := hb6.size
      have hyl : ys.length ≤ 1000000000000 - 1 := by rw [HY.out]; omega
      clear hde hl' hc3 hA3 hO5 hown5 HP5
      go_wp2_with fail
      refine (HW.out _).mono ?_
      rintro e w7 ⟨rfl, rfl⟩
      go_wp2_with (at_builtin; refine append_struct_g (val := tlw) 41 54 (.agg #[.slice none 0 0, .int .i64 0]) 32 Tryd.underlying41 info_tail rfl (by decide) (by decide) tlw_len tlw_one _ rfl (.tmp 29) (.tmp 39) rfl w.heap.size _ ys rfl hown6 ((A2, n2, c2), pw + k + 1) #[.slice A2 n2 c2, .int .i64 ((pw : Int) + (k : Int) + 1)] (by simp [tlw]) _ rfl rfl hyl hb6s ?_; intro v8 w8 hown8 hg8)
      have HP8 := Lib.hid ((HP6.out.keep fun v n xs h => own_apart h hown6 (by decide) hg8).next (y := ((A2, n2, c2), pw + k + 1)) (by rw [HY.out]; exact HX.out) (own_apart hO6 hown6 (by decide) hg8) (by rw [HA.out, HPw.out, HY.out]))
      have hb8 := hb6.trans (below_own hown6 hb6s hg8)
      go_wp2
      go_roundw
      case rel => exact ⟨k + 1, ys ++ [((A2, n2, c2), pw + k + 1)], by omega, by go_num, Lib.hid (by rw [List.length_append, HY.out]; rfl), hown8, HP8, hb8⟩
      case measure => simp [intOf]; omega
    · obtain rfl : k = n := by omega
      have t1 : decide ((k : Int) < (k : Int)) = false := by simp
      have t1' : decide (k < k) = false := by simp
      have HE := Lib.hid (HP.out.all hown (by rw [HY.out, HL.out]))
      obtain ⟨A4, c4, h4⟩ := (SArr.of_own tlw_len hown).form
      subst h4
      go_wp2
      go_ret
      exact ⟨_, _, _, rfl, HE.out, hb⟩

end Go.Proofs.YtafnjbmeponobaaDoor

namespace Go.Proofs.YtafnjbmeponobaaDoor
open Go.RowKit

theorem mid_any {w : World} {B b o n c : Nat} {l : List Nat} (h : Arr nv w B (.slice (some ⟨b, o, none⟩) n c) l) (k m : Nat) (h1 : k < n) (h2 : k + m ≤ n) :
    (∀ W : World, (Instr.sliceAt 22 (.slice (some ⟨b, o, none⟩) n c) (some (.int .i64 (k : Int))) (some (.int .i64 ((k : Int) + (m : Int)))) none).run Tryd.prog W = .ok (.slice (some ⟨b, o + k, none⟩) m (c - k)) W) ∧ ∀ v, (∀ p : Addr, p.block < B → v.cell? p = w.cell? p) → Arr nv v B (.slice (some ⟨b, o + k, none⟩) m (c - k)) ((l.drop k).take m) := by
  have hl := h.len
  have hcap := h.cap
  refine ⟨fun W => ?_, fun v hv => ?_⟩
  · have ec : (k : Int) + (m : Int) = ((k + m : Nat) : Int) := by omega
    rw [ec, run_sliceAt_slice W _ _ _ _ _ elem_ints, run_slice_lh W _ _ n c elem_ints .i64 .i64 (k : Int) ((k + m : Nat) : Int) (by omega) (by omega) (by omega), size_elem_int]
    simp only [Result.andThen, sliced, Int.toNat_natCast, Nat.mul_one]
    rw [if_neg (by omega), Option.map_some, add_plain]
    have e : k + m - k = m := by omega
    rw [e]
  · rcases h.keep hv with ⟨e, _⟩ | ⟨a, c', e, _, hb, hc⟩
    · cases e
    · injection e with e1 e2 e3
      injection e1 with e1
      subst e1 e3
      refine .inr ⟨⟨b, o + k, none⟩, c - k, by rw [List.length_take, List.length_drop, hl, Nat.min_eq_left (by omega)], by rw [List.length_take, List.length_drop, hl]; omega, fun h0 => hb (by omega), fun i u hu => ?_⟩
      rw [List.getElem?_take] at hu
      split at hu
      · rw [List.getElem?_drop] at hu
        have := hc (k + i) u hu
        rw [add_plain] at this ⊢
        rw [Nat.add_assoc]
        exact this
      · cases hu
/-- The tertiary weight of a Text that is passed. -/
theorem cap_two : ∀ l : List Nat, l.foldl (fun m c => max m (capN c)) 2 = 2
  | [] => rfl
  | c :: l => by
    have := (cap_bound c).2
    rw [List.foldl_cons, Nat.max_eq_left this]
    exact cap_two l
theorem cap_tail : ∀ l : List Nat, l.foldl (fun m c => max m (capN c)) 1 = if decide (l = l.map lowN) = true then 1 else 2
  | [] => rfl
  | c :: l => by
    rw [List.foldl_cons, List.map_cons]
    by_cases h : lowN c = c
    · have e : capN c = 1 := by unfold capN; rw [if_pos (beq_of h)]
      rw [e, h]
      show l.foldl _ 1 = _
      rw [cap_tail l]
      by_cases h2 : l = l.map lowN
      · rw [if_pos (decide_eq_true h2), if_pos (decide_eq_true (by rw [← h2]))]
      · rw [if_neg (by rw [decide_eq_false h2]; exact Bool.false_ne_true), if_neg]
        rw [decide_eq_false (fun e => h2 (List.cons.inj e).2)]
        exact Bool.false_ne_true
    · have e : capN c = 2 := by unfold capN; rw [if_neg (by rw [beq_false h]; exact Bool.false_ne_true)]
      rw [e]
      show l.foldl _ 2 = _
      rw [cap_two, if_neg]
      rw [decide_eq_false (fun e => h (List.cons.inj e).1.symm)]
      exact Bool.false_ne_true
theorem own_drewG {w : World} {base : Nat} {v : Value} {o : List El} (h : OwnEls w base v o) : OwnEls w.drew base v o := h
/-- The first k cells of a row hold the small letters. -/
def FillTo (d : List Nat) (cs : Array Value) (k : Nat) : Prop := ∀ (j x : Nat), j < k → d[j]? = some x → cs[j]? = some (nv (lowN x))
theorem fill_next {d : List Nat} {cs : Array Value} {k x : Nat} (h : FillTo d cs k) (hk : k < cs.size) (hx : d[k]? = some x) : FillTo d (cs.setIfInBounds k (nv (lowN x))) (k + 1) := by
  intro j y hj hy
  rw [Array.getElem?_setIfInBounds]
  by_cases e : k = j
  · subst e
    rw [if_pos rfl, if_pos hk]
    rw [hx] at hy
    rw [Option.some.inj hy]
  · rw [if_neg e]
    exact h j y (by omega) hy

theorem slEqual_below (A : Option Addr) (n c : Nat) (A' : Option Addr) (n' c' : Nat) (l l' : List Nat) (w : World) (hA : Arr nv w w.heap.size (.slice A n c) l) (hA' : Arr nv w w.heap.size (.slice A' n' c') l') (hn : n ≤ 1000000) (hn' : n' ≤ 1000000) :
    Calls Tryd.prog 46 #[.slice A n c, .slice A' n' c'] w fun e w' => e = .returned (.bool (decide (l = l'))) ∧ Below w.heap.size w w' :=
  (slEqual_any A n c A' n' c' l l' w hA hA' hn hn').mono fun _ _ ⟨h1, q, h2⟩ => ⟨h1, h2 ▸ below_drewN (Below.refl _ _) q⟩

set_option maxRecDepth 100000 in
set_option maxHeartbeats 12800000 in
theorem prElements_any (A : Option Addr) (n c : Nat) (T : List LetL) (form : List UInt8) (d : List Nat) (w : World) (hS : Spans w) (hL : Ltt w w.heap.size (.slice A n c) T) (hT : LetOk T) (hd : decR form = some d) (hA : ∀ c ∈ d, Asked c) (hlen : form.length ≤ 5000) :
    Calls Tryd.prog 30 #[.slice A n c, .string (str form)] w fun e w' => ∃ A' n' c', e = .returned (.slice A' n' c') ∧ SArr 3 ev w' w'.heap.size (.slice A' n' c') (elemsL T d) ∧ n' ≤ 3 * d.length ∧ Below w.heap.size w w' := by
  have HD := Lib.hid (prDecode_any form w hS (by omega))
  rw [hd] at HD
  have hdl := dec_len hd
  have HS := Lib.hid hS
  have HLt := Lib.hid hL
  have HT := Lib.hid hT
  have HAs := Lib.hid hA
  obtain ⟨R, hR⟩ : ∃ R, elemsL T d = R := ⟨_, rfl⟩
  rw [hR]
  have HR := Lib.hid hR
  clear hd hS hL hT hA hR
  go_enter Tryd.func30, Tryd.ntmps30
  go_wp2_with fail
  refine HD.out.mono ?_
  rintro e w2 ⟨hde, k2⟩
  obtain ⟨A0, n0, c0, b', rfl, hcase⟩ := hde.form
  rcases hcase with ⟨rfl, l', hl', hn0, hA0, -⟩ | ⟨rfl, h', -⟩
  case inr => cases h'
  obtain rfl := Option.some.inj hl'
  have HN0 := Lib.hid hn0
  have hn5 : n0 ≤ 5000 := by omega
  have hmk : ∀ W, (Instr.makeSlice 22 (.int .i64 (n0 : Int)) (.int .i64 (n0 : Int))).run Tryd.prog W = .ok (.slice (some ⟨W.heap.size, 0, none⟩) n0 n0) (W.alloc (.cells (madeOf (.int .i64 0) n0) 3)) := fun W => make_ints n0 n0 (Nat.le_refl _) (by omega) W
  clear hl' hde hn0 HD hdl
  go_wp2
  go_loopw [25] (fun iv_ wr => ∃ (k : Nat) (cs : Array Value), k ≤ n0 ∧ iv_ = .int .i64 (k : Int) ∧ Box wr w2.heap.size 3 cs ∧ cs.size = n0 ∧ Hid (FillTo d cs k) ∧ Below w2.heap.size w2 wr) (fun iv_ _ => n0 - (intOf iv_).toNat)
  case atStart => exact ⟨0, _, by omega, rfl, Box.made w2 _ _, madeOf_size _ _, Lib.hid (fun j x hj => by omega), (Below.refl _ _).alloc (Nat.le_refl _) _⟩
  case round =>
    obtain ⟨k, cs, hk, rfl, hbox, hcs, HFi, hb⟩ := hrel
    have hbx := hbox.lt
    by_cases hlt : k < n0
    · have t1 : decide ((k : Int) < (n0 : Int)) = true := by simp; omega
      have t1' : decide (k < n0) = true := by simpa using hlt
      have kz : (k : Int) < (n0 : Int) := by omega
      obtain ⟨a0, o0, rfl, hA0b, hca⟩ := hA0.some_ (by omega)
      obtain ⟨x, hx⟩ : ∃ x, d[k]? = some x := ⟨_, List.getElem?_eq_getElem (by have := HN0.out; omega)⟩
      have d0 : wr.cell? ⟨a0, o0 + k, none⟩ = some (.int .i64 (x : Int)) := (hb.cell (p := ⟨a0, o0 + k, none⟩) hA0b).trans (hca k x hx)
      have f0 : wr.frozen? ⟨w2.heap.size, k, none⟩ = false := hbox.free k
      obtain ⟨ov, hov⟩ : ∃ ov, cs[k]? = some ov := ⟨_, Array.getElem?_eq_getElem (by omega)⟩
      have c0' : wr.cell? ⟨w2.heap.size, k, none⟩ = some ov := by rw [hbox.cell]; exact hov
      have HLw := Lib.hid (prLower_s (x : Int) wr)
      rw [lowI_nat] at HLw
      have HF2 := Lib.hid (fill_next HFi.out (by omega) hx)
      have hbox2 := hbox.put k (nv (lowN x))
      have hcs2 : (cs.setIfInBounds k (nv (lowN x))).size = n0 := by rw [Array.size_setIfInBounds, hcs]
      obtain ⟨y, hy⟩ : ∃ y, lowN x = y := ⟨_, rfl⟩
      rw [hy] at HLw HF2 hbox2 hcs2
      clear hca hx hov hy hcs
      go_wp2_with fail
      refine HLw.out.mono ?_
      rintro e w5 ⟨rfl, rfl⟩
      go_wp2
      go_roundw
      case rel => exact ⟨k + 1, _, by omega, by go_num, hbox2, hcs2, HF2, below_putL hb (Nat.le_refl _) _⟩
      case measure => simp [intOf]; omega
    · obtain rfl : k = n0 := by omega
      have t1 : decide ((k : Int) < (k : Int)) = false := by simp
      have t1' : decide (k < k) = false := by simp
      obtain ⟨w3, hw3⟩ : ∃ x : World, x = wr := ⟨_, rfl⟩
      subst hw3
      have hSm : Arr nv w3 w3.heap.size (.slice (some ⟨w2.heap.size, 0, none⟩) k k) (d.map lowN) := by
        have h1 := Arr.of_box (val := nv) (xs := d.map lowN) (n := k) (c := k) hbox (by rw [List.length_map, HN0.out]) (Nat.le_refl _) (fun i u hu => by
          rw [List.getElem?_map] at hu
          obtain ⟨x, hx, rfl⟩ := Option.map_eq_some_iff.1 hu
          exact HFi.out i x (by have := (List.getElem?_eq_some_iff.1 hx).1; have := HN0.out; omega) hx)
        exact h1.more hbx
      have HSm := Lib.hid hSm
      have HA3 := Lib.hid (hA0.up hb)
      have hb3 := below_next k2 hb
      have HS3 := Lib.hid (HS.out.below hb3)
      have HL3 := Lib.hid (HLt.out.up hb3)
      clear hA0 hSm hmk HFi hbox hcs
      go_wp2
      go_loopw [10, 11] (fun lv av wi => ∃ (q : Nat) (o : List El), q ≤ k ∧ av = .int .i64 (q : Int) ∧ OwnEls wi w3.heap.size lv o ∧ o.length ≤ 3 * q ∧ Hid (R = o ++ elemsL T (d.drop q)) ∧ Below w3.heap.size w3 wi) (fun _ av _ => k - (intOf av).toNat)
      case atStart => exact ⟨0, [], by omega, rfl, World.ownsRow_nil _ _ _ _, by simp, Lib.hid (by rw [← HR.out]; rfl), Below.refl _ _⟩
      case round =>
        obtain ⟨q, o, hq, rfl, hO, hol, HRo, hbi⟩ := hrel
        have hbis := hbi.size
        by_cases hlt : q < k
        · have t2 : decide ((q : Int) < (k : Int)) = true := by simp; omega
          have t2' : decide (q < k) = true := by simpa using hlt
          have qz : (q : Int) < (k : Int) := by omega
          obtain ⟨V, hVr, hVa⟩ := tail_any HSm.out q hq
          have hV1 := hVa wr (fun p hp => hbi.cell hp)
          obtain ⟨A5, c5, rfl⟩ := hV1.form
          have hdl : ((d.map lowN).drop q).length = k - q := by rw [List.length_drop, List.length_map, HN0.out]
          rw [hdl] at hV1 hVr
          rw [← List.map_drop] at hV1
          have HLg := Lib.hid (longest_any A n c A5 (k - q) c5 T (d.drop q) wr (HL3.out.up hbi) (hV1.more hbis) HT.out (by omega))
          clear hV1 hdl hVa
          go_wp2_with fail
          refine HLg.out.mono ?_
          rintro e w4 ⟨⟨Av, mv, cv, p, ok, rfl, hend⟩, k4⟩
          rcases hend with ⟨rfl, hnone⟩ | ⟨rfl, j, x, hx, hbest, hAv, rfl⟩
          · obtain ⟨V4, hV4⟩ : ∃ V4, w4.alloc (.cells #[.slice Av mv cv, .int .i64 p] 54) = V4 := ⟨_, rfl⟩
            have hb4 : Below w3.heap.size w3 w4 := hbi.trans (k4.mono hbis)
            have hbV : Below w3.heap.size w3 V4 := by rw [← hV4]; exact hb4.alloc hb4.size _
            have hOV := own_keep_below (own_keep_below hO k4) ((Below.refl w4.heap.size w4).alloc (Nat.le_refl _) (.cells #[.slice Av mv cv, .int .i64 p] 54))
            rw [hV4] at hOV
            obtain ⟨ch, hch⟩ : ∃ ch, d[q]? = some ch := ⟨_, List.getElem?_eq_getElem (by have := HN0.out; omega)⟩
            obtain ⟨a0, o0, rfl, hA0b, hca⟩ := HA3.out.some_ (by omega)
            obtain ⟨b1, o1, e1, hB1, hcb⟩ := HSm.out.some_ (by omega)
            injection e1 with e1
            injection e1 with e1 e2
            subst e1 e2
            have d0 : V4.cell? ⟨a0, o0 + q, none⟩ = some (.int .i64 (ch : Int)) := (hbV.cell (p := ⟨a0, o0 + q, none⟩) hA0b).trans (hca q ch hch)
            have d1 : V4.cell? ⟨w2.heap.size, q, none⟩ = some (.int .i64 (lowN ch : Int)) := by
              have h1 := hcb q (lowN ch) (by rw [List.getElem?_map, hch]; rfl)
              rw [Nat.zero_add] at h1
              exact (hbV.cell (p := ⟨w2.heap.size, q, none⟩) hbx).trans h1
            have hq1 := HAs.out ch (List.mem_of_getElem? hch)
            have HEl := Lib.hid (fun (v : Value) (W : World) (hW : Below w3.heap.size w3 W) (hOW : OwnEls W w3.heap.size v o) => prElem_any w3.heap.size v o ch W (HS3.out.below hW) hOW hW.size (by omega) hq1)
            have HR2 : Hid (R = (o ++ singleL ch) ++ elemsL T (d.drop (q + 1))) := Lib.hid (by
              rw [HRo.out, dropK_at hch, List.append_assoc]
              rw [dropK_at hch] at hnone
              rw [elemsL_none hnone])
            have hf3 := (ok_col hq1.has hq1.whole).few
            have hol2 : (o ++ singleL ch).length ≤ 3 * (q + 1) := by rw [List.length_append]; omega
            obtain ⟨X, hX⟩ : ∃ X, o ++ singleL ch = X := ⟨_, rfl⟩
            rw [hX] at HEl HR2 hol2
            obtain ⟨lo, hlo⟩ : ∃ lo, lowN ch = lo := ⟨_, rfl⟩
            rw [hlo] at HEl d1
            have hbD := hbV.drew
            have hOD := own_drewG hOV
            clear hnone hca hcb hch hX hlo hq1 hf3 hO
            go_wp2
            go_region_held3 (fun v => v.cell? ⟨a0, o0 + q, none⟩ = some (.int .i64 (ch : Int)) ∧ v.cell? ⟨w2.heap.size, q, none⟩ = some (.int .i64 (lo : Int))) (first | exact ⟨d0, d1⟩ | exact ⟨d5, d6⟩)
              (first | (go_at_call 47; (with_reducible refine (HEl.out _ _ hbD hOD).mono ?_); rintro e w5 ⟨v5, rfl, hO5, hB5⟩; have d5 := (hB5.cell (p := ⟨a0, o0 + q, none⟩) hA0b).trans d0; have d6 := (hB5.cell (p := ⟨w2.heap.size, q, none⟩) hbx).trans d1))
            all_goals
              go_wp2
              go_roundw
              case rel => exact ⟨q + 1, X, by omega, by go_num, hO5, hol2, HR2, hbD.trans hB5⟩
              case measure => simp [intOf]; omega
          · obtain ⟨_, -, -, hm0, -, hml⟩ := best_some hbest
            simp only at hm0 hml
            have hmv := hAv.len
            rw [List.length_drop, ← HN0.out, hmv] at hml
            rw [hmv] at hm0
            have hqm : q + mv ≤ k := by omega
            have HM := Lib.hid hmv
            obtain ⟨hpa, -⟩ := af_weight (HT.out.after x (List.mem_of_getElem? hx)).1 (HT.out.after x (List.mem_of_getElem? hx)).2
            obtain ⟨pw, hpw⟩ : ∃ pw, lwN x.2 + j + 1 = pw := ⟨_, rfl⟩
            rw [hpw]
            obtain ⟨V4, hV4⟩ : ∃ V4, w4.alloc (.cells #[.slice Av mv cv, .int .i64 (pw : Int)] 54) = V4 := ⟨_, rfl⟩
            have hb4 : Below w3.heap.size w3 w4 := hbi.trans (k4.mono hbis)
            have hbV : Below w3.heap.size w3 V4 := by rw [← hV4]; exact hb4.alloc hb4.size _
            have hOV := own_keep_below (own_keep_below hO k4) ((Below.refl w4.heap.size w4).alloc (Nat.le_refl _) (.cells #[.slice Av mv cv, .int .i64 (pw : Int)] 54))
            rw [hV4] at hOV
            have hboxV := Box.made w4 54 #[.slice Av mv cv, .int .i64 (pw : Int)]
            rw [hV4] at hboxV
            have e0 : V4.cell? ⟨w4.heap.size, 0, none⟩ = some (.slice Av mv cv) := hboxV.cell 0
            have e1 : V4.cell? ⟨w4.heap.size, 1, none⟩ = some (.int .i64 (pw : Int)) := hboxV.cell 1
            obtain ⟨a0, o0, rfl, hA0b, -⟩ := HA3.out.some_ (by omega)
            obtain ⟨hr1, ha1⟩ := mid_any HA3.out q mv hlt hqm
            obtain ⟨hr2, ha2⟩ := mid_any HSm.out q mv hlt hqm
            rw [Nat.zero_add] at hr2 ha2
            have hE1 := ha1 V4 (fun p hp => hbV.cell hp)
            have hE2 := ha2 V4 (fun p hp => hbV.cell hp)
            have hVs := hbV.size
            have HEq := Lib.hid (fun (W : World) (hW : Below V4.heap.size V4 W) => slEqual_below _ mv _ _ mv _ _ _ W ((hE1.more hVs).up hW) ((hE2.more hVs).up hW) (by omega) (by omega))
            have s1 : IntKind.i64.wrap ((q : Int) + (mv : Int)) = (q : Int) + (mv : Int) := wraps_i64 _ (by omega) (by omega)
            have HL2 : Hid (((d.map lowN).drop q).take mv = ((d.drop q).take mv).map lowN) := Lib.hid (by rw [List.map_take, List.map_drop])
            rw [HL2.out] at HEq
            obtain ⟨bq, hbq⟩ : ∃ bq, decide ((d.drop q).take mv = ((d.drop q).take mv).map lowN) = bq := ⟨_, rfl⟩
            have hct := cap_tail ((d.drop q).take mv)
            rw [hbq] at HEq hct
            obtain ⟨tz, htz⟩ : ∃ tz : Nat, (if bq = true then 1 else 2) = tz := ⟨_, rfl⟩
            have HO1 := Lib.hid (fun W => prOneIf_any bq W)
            have hi1 : (if bq = true then (1 : Int) else 2) = (tz : Int) := by rw [← htz]; split <;> rfl
            rw [hi1] at HO1
            have HR2 : Hid (R = (o ++ [(pw, 1, tz)]) ++ elemsL T (d.drop (q + mv))) := Lib.hid (by
              rw [HRo.out, elemsL_some hbest, List.append_assoc]
              unfold tailEl
              rw [hx, hmv]
              show o ++ ((primOf x.2 + j + 1, 1, ((d.drop q).take mv).foldl (fun m c => max m (capN c)) 1) :: elemsL T ((d.drop q).drop mv)) = _
              rw [hpa, hpw, hct, htz, List.drop_drop]
              rfl)
            have hol2 : (o ++ [(pw, 1, tz)]).length ≤ 3 * (q + mv) := by rw [List.length_append]; simp; omega
            have hol3 : o.length ≤ 1000000000000 - 1 := by omega
            have hOD := own_drewG hOV
            have hqz : (q : Int) < (k : Int) := by omega
            clear hO hOV hmv hpw hx hbest hAv hpa hbq hct htz hi1 ha1 ha2 hE1 hE2 hml
            go_wp2
            have hbD := (Below.refl V4.heap.size V4).drew
            have hboxD := hboxV.drew
            go_region_held3 (fun v => v.cell? ⟨w4.heap.size, 1, none⟩ = some (.int .i64 (pw : Int))) (first | exact e1 | exact e5 | exact e6 | exact e7)
              (first
                | (go_at_call 46; (with_reducible refine (HEq.out _ hbD).mono ?_); rintro e w5 ⟨rfl, k5⟩; have hO5 := own_keep_below hOD k5; have hb5 := hbV.drew.trans (k5.mono hVs); have hbox5 := hboxD.below k5 hboxD.lt; have e5 := hbox5.cell 1)
                | (go_at_call 45; (with_reducible refine (HO1.out _).mono ?_); rintro e w6 ⟨rfl, rfl⟩; have hO6 := own_keep_below hO5 ((Below.refl (w5).heap.size (w5)).alloc (Nat.le_refl _) (.cells (ev (pw, 1, tz)).toArray 60)); have hc6 := cells_made (cs := ev (pw, 1, tz)) (w5) 60; have hb6 := hb5.alloc hb5.size (.cells (ev (pw, 1, tz)).toArray 60); have hbs6 := hb6.size; have hbox6 := hbox5.alloc (.cells (ev (pw, 1, tz)).toArray 60); have e6 := hbox6.cell 1)
                | (refine step_struct_g (val := ev) 56 60 (.agg #[.int .i64 0, .int .i64 0, .int .i64 0]) 24 Tryd.underlying56 info_pel rfl (by decide) (by decide) ev_len ev_one ((w5).alloc (.cells (ev (pw, 1, tz)).toArray 60)) (by rfl) (.tmp 54) (.tmp 68) (by rfl) w3.heap.size _ o (by rfl) hO6 (pw, 1, tz) ⟨w5.heap.size, 0, none⟩ (by rfl) hc6 hol3 hbs6 ?_; intro r3 w7 hown7 hg7; have hbox7 := box_apart hbox6 hO6 (by decide) hg7; have e7 := hbox7.cell 1))
            all_goals
              have hb7 := below_own hO6 hbs6 hg7
              go_wp2
              go_roundw
              case rel => exact ⟨q + mv, o ++ [(pw, 1, tz)], by omega, by go_num, hown7, hol2, HR2, hb6.trans hb7⟩
              case measure => simp [intOf]; omega
        · obtain rfl : q = k := by omega
          have t2 : decide ((q : Int) < (q : Int)) = false := by simp
          have t2' : decide (q < q) = false := by simp
          have HE : Hid (R = o) := Lib.hid (by rw [HRo.out, List.drop_of_length_le (by rw [HN0.out]; exact Nat.le_refl _), elemsL_nil, List.append_nil])
          have hS4 := SArr.of_own ev_len hO
          obtain ⟨A4, c4, h4⟩ := hS4.form
          subst h4
          go_wp2
          go_ret
          rw [HE.out]
          exact ⟨_, _, _, rfl, hS4, by rw [← HN0.out]; exact hol, below_next hb3 hbi⟩

end Go.Proofs.YtafnjbmeponobaaDoor

namespace Go.Proofs.YtafnjbmeponobaaDoor
open Go.RowKit

theorem ordB_compare : ∀ a b : List UInt8, Lib.compareBytes a b = ordB a b
  | [], [] => rfl
  | [], _ :: _ => rfl
  | _ :: _, [] => rfl
  | x :: a, y :: b => by
    have ih := ordB_compare a b
    unfold ordB at ih ⊢
    unfold Lib.compareBytes
    rw [List.map_cons, List.map_cons, ordL_cons, ← ih]
    rfl
theorem bytes_of {P : Program} {w : World} {B : Nat} {v : Value} {bs : List UInt8} (h : Arr bv w B v bs) : (Extern.Bytes.bytesOf v).run P w = .ok (str bs) w := by
  rcases h with ⟨rfl, rfl⟩ | ⟨a, c, rfl, _, _, hc⟩
  · rfl
  · show (Extern.Bytes.loadBytes a bs.length .empty).run P w = _
    have h1 := Lib.run_loadBytesX (P := P) w (bs.map fun u => (u.toNat : Int)) a .empty fun j x hj => by
      rw [List.getElem?_map] at hj
      obtain ⟨u, hu, rfl⟩ := Option.map_eq_some_iff.1 hj
      exact hc j u hu
    rw [List.length_map] at h1
    rw [h1]
    have e2 : Lib.bytesOf (bs.map fun u => (u.toNat : Int)) = bs := by
      unfold Lib.bytesOf
      rw [List.map_map]
      conv => rhs; rw [← List.map_id bs]
      apply List.map_congr_left
      intro a _
      simp
    rw [e2]
    congr 1
    apply ByteArray.ext
    show (#[] : Array UInt8) ++ bs.toArray = (str bs).data
    simp [str]

set_option maxRecDepth 20000 in
set_option maxHeartbeats 1600000 in
theorem bytesCompare_any (A : Option Addr) (n c : Nat) (A' : Option Addr) (n' c' : Nat) (l l' : List UInt8) (B : Nat) (w : World) (hA : Arr bv w B (.slice A n c) l) (hA' : Arr bv w B (.slice A' n' c') l') :
    Calls Tryd.prog 19 #[.slice A n c, .slice A' n' c'] w fun e w' => e = .returned (.int .i64 (ordB l l')) ∧ w' = w := by
  have hr : (Extern.BytealgCompare.compare #[.slice A n c, .slice A' n' c']).run Tryd.prog w = .ok (.int .i64 (ordB l l')) w := by
    change Sem.run Tryd.prog (do pure (goInt (Extern.BytealgCompare.cmp (← Extern.Bytes.bytesOf (.slice A n c)) (← Extern.Bytes.bytesOf (.slice A' n' c'))))) w = _
    rw [Sem.run_bind, bytes_of hA]
    simp only [Result.andThen]
    rw [Sem.run_bind, bytes_of hA']
    simp only [Result.andThen, Sem.run_pure]
    rw [Lib.cmp_eq, ← ordB_compare]
    simp [str]
    rfl
  clear hA hA'
  go_enter Tryd.func19, Tryd.ntmps19
  go_wp2
  rw [run_callFunc_extern Tryd.func28 (by kernel_rfl) (by kernel_rfl) (by kernel_rfl) (e := Extern.BytealgCompare.compare) (by kernel_rfl), hr]
  simp only [Result.andThen]
  rw [Oper.upon_value]
  go_wp2
  go_ret
  exact ⟨rfl, rfl⟩

theorem str_eqB (a b : List UInt8) : ((str a).toList == (str b).toList) = decide (a = b) := by
  rw [str_toList, str_toList]
  by_cases h : a = b
  · rw [decide_eq_true h, h]; simp
  · rw [decide_eq_false h]; simpa using h

end Go.Proofs.YtafnjbmeponobaaDoor
