/-
  The reference's elements of collate.
  The program's prepare: the letters of a tailoring with their characters and weights.
-/
import Derived.Test.YtafnjbmeponobaaGreatDoorPkBC
import Derived.Lib.MinMax
import Derived.Test.YtafnjbmeponobaaGreatDoorPkAW
namespace Go.Proofs.YtafnjbmeponobaaGreatDoor
open Go.RowKit

theorem below_put6 {w w' : World} {B k i : Nat} (h : Below B w w') (hk : B ≤ k) (v : Value) : Below B w (w'.setCell ⟨k, i, none⟩ v) :=
  ⟨h.os, h.tape, h.output, by rw [World.size_setCell]; exact h.size, fun j hj => (Below.heap_setCell w' ⟨k, i, none⟩ v j (by show j ≠ k; omega)).trans (h.block j hj)⟩
theorem let_facts {t : List RuleL} (hv : validT t = true) : ∀ x ∈ t, decR x.1 = some (nL x.1) ∧ (nL x.1).length ≤ 4 ∧ x.1.length ≤ 12 ∧ decR x.2 = some [(letL x).2] ∧ x.2.length ≤ 3 ∧ Asked (letL x).2 := by
  intro x hx
  have h := hv
  unfold validT preT at h
  simp only [Bool.and_eq_true, decide_eq_true_eq, List.all_eq_true] at h
  have h1 := h.1.1 x hx
  unfold letB at h1
  rw [Bool.and_eq_true] at h1
  obtain ⟨c, l, k1, k2, k3, _, _, _, k7⟩ := text_facts h1.1
  obtain ⟨d, j1, j2, _, j4, j5⟩ := after_facts h1.2
  have e : (letL x).2 = d := by show (nL x.2).headD 0 = d; rw [j2]; rfl
  have hD := (dec_dc x.2)
  refine ⟨by rw [k1, k2], by rw [k2]; exact k3, ?_, by rw [e]; exact j1, ?_, ?_⟩
  · have := encL_len (c :: l)
    rw [k7] at this
    omega
  · have := encL_len [d]
    rw [j5] at this
    simpa using this
  · rw [e]
    exact ⟨j4.has, j4.whole⟩
/-- The slice behind the first number, as the walk reckons it. -/
theorem tail_one {w : World} {B b o n c : Nat} {l : List Nat} (h : Arr nv w B (.slice (some ⟨b, o, none⟩) n c) l) (hn : 1 ≤ n) :
    ∃ A, (if c = 1 then some (⟨b, o, none⟩ : Addr) else some ⟨b, o + 1, none⟩) = A ∧ Arr nv w B (.slice A (n - 1) (c - 1)) (l.drop 1) := by
  refine ⟨_, rfl, ?_⟩
  have hl := h.len
  have hcap := h.cap
  rcases h with ⟨e, _⟩ | ⟨a, c', e, _, hb, hc⟩
  · cases e
  · injection e with e1 e2 e3
    injection e1 with e1
    subst e1 e3
    by_cases h1 : c = 1
    · rw [if_pos h1]
      have hd : l.drop 1 = [] := List.drop_of_length_le (by omega)
      rw [hd]
      refine .inr ⟨⟨b, o, none⟩, c - 1, by simp; omega, by simp, by simp, by simp⟩
    · rw [if_neg h1]
      refine .inr ⟨⟨b, o + 1, none⟩, c - 1, by rw [List.length_drop, hl], by rw [List.length_drop]; omega, fun h0 => by rw [List.length_drop] at h0; exact hb (by omega), fun i u hu => ?_⟩
      rw [List.getElem?_drop] at hu
      have := hc (1 + i) u hu
      rw [add_plain] at this ⊢
      rw [Nat.add_assoc]
      exact this
def lenOf : Value → Nat
  | .slice _ n _ => n
  | _ => 0

set_option maxRecDepth 100000 in
set_option maxHeartbeats 12800000 in
theorem refElements_any (A : Option Addr) (n c : Nat) (t : List RuleL) (s : List UInt8) (w : World) (h : SArr 2 rv w w.heap.size (.slice A n c) t) (hv : validT t = true) (hs : s.length ≤ 100000) :
    Calls Tryz.prog 45 #[.slice A n c, .string (str s)] w (EndEls w (elsT t s)) := by
  have HL := Lib.hid h.len
  have HFew : Hid (n ≤ 40) := Lib.hid (by
    have := (valid_let hv).few
    rw [List.length_map, h.len] at this
    exact this)
  have hfew := HFew.out
  have HF := Lib.hid (let_facts hv)
  have HDc := Lib.hid (refDecompose_any s w hs)
  have hdec : decR (nD s) = some (dcF (nL s)) := dec_enc _ (dcF_ok s)
  have hDl : (dcF (nL s)).length ≤ 1000000 := by
    have h1 := dcF_len (nL s)
    have h2 := nL_len s
    omega
  have hNl : (nD s).length ≤ 10000000 := by
    have := encL_len (dcF (nL s))
    show (encL (dcF (nL s))).length ≤ _
    omega
  have HDe := Lib.hid fun W => refDecode_any (nD s) W (by omega)
  rw [hdec] at HDe
  have HAs : Hid (∀ c ∈ dcF (nL s), Asked c) := Lib.hid fun c hc => ⟨(dc_facts s c hc).1, (dc_facts s c hc).2⟩
  have HR : Hid (elsT t s = elemsL (t.map letL) (dcF (nL s))) := Lib.hid rfl
  obtain ⟨R, hR⟩ : ∃ R, elsT t s = R := ⟨_, rfl⟩
  obtain ⟨D, hD⟩ : ∃ D, dcF (nL s) = D := ⟨_, rfl⟩
  obtain ⟨b, hb⟩ : ∃ b, nD s = b := ⟨_, rfl⟩
  obtain ⟨T, hT⟩ : ∃ T, t.map letL = T := ⟨_, rfl⟩
  have HTx : Hid (∀ (i : Nat) (x : RuleL), t[i]? = some x → T[i]? = some (letL x)) := Lib.hid fun i x hx => by rw [← hT, List.getElem?_map, hx]; rfl
  have HTl : Hid (T.length = n) := Lib.hid (by rw [← hT, List.length_map, h.len])
  rw [hR] at HR ⊢
  rw [hD] at HDe HAs HR hDl
  rw [hb] at HDc HDe
  rw [hT] at HR
  clear hR hD hb hT hdec hNl hv
  go_enter Tryz.func45, Tryz.ntmps45
  go_wp2_with fail
  refine HDc.out.mono ?_
  rintro e w1 ⟨rfl, k1⟩
  go_wp2_with fail
  refine (HDe.out _).mono ?_
  rintro e w2 ⟨hde, k2⟩
  obtain ⟨A0, n0, c0, b', rfl, hcase⟩ := hde.form
  rcases hcase with ⟨rfl, l', hl', hn0, hA0, -⟩ | ⟨rfl, h, -⟩
  case inr => cases h
  obtain rfl := Option.some.inj hl'
  have hw2 := below_next k1 k2
  have hn0' : n0 ≤ 1000000 := by omega
  clear hl' hde HDc HDe hn0
  go_wp2
  go_loopw [5, 7] (fun lv ov wr => ∃ (A1 : Option Addr) (n1 c1 : Nat) (r : List Nat) (o : List El), lv = .slice A1 n1 c1 ∧ Hid (Arr nv w2 w2.heap.size (.slice A1 n1 c1) r) ∧ wr.ownsRow w2.heap.size 71 3 ov o.length (o.flatMap ev) ∧ n1 ≤ 1000000 ∧ o.length + 3 * n1 ≤ 3000000 ∧ Hid (∀ c ∈ r, Asked c) ∧ Hid (R = o ++ elemsL T r) ∧ Below w2.heap.size w2 wr) (fun lv _ _ => lenOf lv)
  case atStart => exact ⟨A0, n0, c0, D, [], rfl, Lib.hid hA0, World.ownsRow_nil _ _ _ _, by omega, by simp; omega, HAs, Lib.hid (by rw [HR.out]; rfl), Below.refl _ _⟩
  case round =>
    obtain ⟨A1, n1, c1, r, o, rfl, HA1, hown, hn1, hol, HAr, HRr, hb⟩ := hrel
    have hrl : r.length = n1 := HA1.out.len
    obtain ⟨wo, hwo⟩ : ∃ x : World, x = wr := ⟨_, rfl⟩
    subst hwo
    by_cases h0 : n1 = 0
    · subst h0
      obtain rfl := List.length_eq_zero_iff.1 hrl
      have hRo : R = o := by rw [HRr.out, elemsL_nil, List.append_nil]
      have hA2 := SArr.of_own ev_len hown
      obtain ⟨A4, c4, h4⟩ := hA2.form
      subst h4
      clear hA0
      go_wp2
      go_ret
      rw [hRo]
      exact ⟨_, _, _, rfl, hA2, below_next hw2 hb⟩
    · have t0 : decide ((n1 : Int) > 0) = true := by simp; omega
      have t0' : decide ((0 : Int) < (n1 : Int)) = true := by simp; omega
      have t0n : decide (0 < n1) = true := by simp; omega
      have z0 : (0 : Int) < (n1 : Int) := by omega
      obtain ⟨a0, o0, rfl, hAb, hca⟩ := HA1.out.some_ (by omega)
      obtain ⟨A4, c4, h4⟩ := (SArr.of_own ev_len hown).form
      obtain ⟨M, hM⟩ : ∃ M, o.length = M := ⟨_, rfl⟩
      have HM := Lib.hid hM
      rw [hM] at h4 hol
      subst h4
      have HOwn := Lib.hid hown
      clear hown hA0 hM
      go_wp2
      go_loopw [8, 9, 10] (fun bv mv iv_ wi => ∃ (k m : Nat) (z : Int), k ≤ n ∧ iv_ = .int .i64 (k : Int) ∧ bv = .int .i64 z ∧ mv = .int .i64 (m : Int) ∧ m ≤ 4 ∧ Hid (BestK T r k z m) ∧ Below wo.heap.size wo wi) (fun _ _ iv_ _ => n - (intOf iv_).toNat)
      case atStart => exact ⟨0, 0, -1, by omega, rfl, rfl, rfl, by omega, Lib.hid (bestK_zero T r), Below.refl _ _⟩
      case round =>
        obtain ⟨k, m, z, hk, rfl, rfl, rfl, hm4, HB, hbi⟩ := hrel
        have hbw : Below w.heap.size w wr := below_next (below_next hw2 hb) hbi
        have hb2 : Below w2.heap.size w2 wr := below_next hb hbi
        by_cases hlt : k < n
        · have t1 : decide ((k : Int) < (n : Int)) = true := by simp; omega
          have t1' : decide (k < n) = true := by simpa using hlt
          have kz : (k : Int) < (n : Int) := by omega
          obtain ⟨b0, p0, rfl, hB0, hc0⟩ := lets_cells h (by omega)
          obtain ⟨x, hx⟩ : ∃ x, t[k]? = some x := ⟨_, List.getElem?_eq_getElem (by have := HL.out; omega)⟩
          have d0 := (hbw.cell (p := ⟨b0, p0 + k * 2, none⟩) hB0).trans (hc0 k x hx).1
          obtain ⟨f1, f2, f3, -, -, -⟩ := HF.out x (List.mem_of_getElem? hx)
          have HTk := HTx.out k x hx
          have HD1 := Lib.hid fun W => refDecode_any x.1 W (by omega)
          rw [f1] at HD1
          have e1 : (letL x).1 = nL x.1 := rfl
          obtain ⟨x1, x2⟩ := x
          obtain ⟨y, hy⟩ : ∃ y, letL (x1, x2) = y := ⟨_, rfl⟩
          rw [hy] at e1 HTk
          rw [← e1] at HD1 f2
          have HTk := Lib.hid HTk
          clear hc0 hx f1 e1 hy hca
          go_wp2_with fail
          refine (HD1.out _).mono ?_
          rintro e w5 ⟨hde, k5⟩
          obtain ⟨A2, n2, c2, b', rfl, hcase⟩ := hde.form
          rcases hcase with ⟨rfl, l', hl', hn2, hA2, -⟩ | ⟨rfl, h, -⟩
          case inr => cases h
          obtain rfl := Option.some.inj hl'
          have hb5 := below_next hbi k5
          have hn24 : n2 ≤ 4 := by omega
          have HN2 := Lib.hid hn2
          have HP := Lib.hid (refPasses_any (some ⟨a0, o0, none⟩) A2 n1 c1 n2 c2 r y.1 w5 (HA1.out.up (below_next hb2 k5)) hA2 (by omega))
          clear hl' hde hn2 hA2 f2
          cases hpb : passB r y.1 with
          | false =>
            rw [hpb] at HP
            have HB2 := Lib.hid (bestK_no HB.out HTk.out (fun hh => by rw [hpb] at hh; exact Bool.noConfusion hh.1))
            clear hpb
            go_wp2_with fail
            refine HP.out.mono ?_
            rintro e w6 ⟨rfl, k6⟩
            have hb6 := below_next hb5 k6
            go_wp2
            go_roundw
            case rel => exact ⟨k + 1, m, z, by omega, by go_num, rfl, rfl, hm4, HB2, hb6⟩
            case measure => simp [intOf]; omega
          | true =>
            rw [hpb] at HP
            by_cases hl : m < n2
            · have t3 : decide ((m : Int) < (n2 : Int)) = true := by simp; omega
              have t3' : decide (m < n2) = true := by simpa using hl
              have HB2 := Lib.hid (bestK_yes HB.out HTk.out hpb (by have := HN2.out; omega))
              rw [← HN2.out] at HB2
              clear hpb
              go_wp2_with fail
              refine HP.out.mono ?_
              rintro e w6 ⟨rfl, k6⟩
              have hb6 := below_next hb5 k6
              go_wp2
              go_roundw
              case rel => exact ⟨k + 1, n2, (k : Int), by omega, by go_num, rfl, rfl, by omega, HB2, hb6⟩
              case measure => simp [intOf]; omega
            · have t3 : decide ((m : Int) < (n2 : Int)) = false := by simp; omega
              have t3' : decide (m < n2) = false := by simpa using hl
              have HB2 := Lib.hid (bestK_no HB.out HTk.out (fun hh => hl (by have := HN2.out; omega)))
              clear hpb
              go_wp2_with fail
              refine HP.out.mono ?_
              rintro e w6 ⟨rfl, k6⟩
              have hb6 := below_next hb5 k6
              go_wp2
              go_roundw
              case rel => exact ⟨k + 1, m, z, by omega, by go_num, rfl, rfl, hm4, HB2, hb6⟩
              case measure => simp [intOf]; omega
        · obtain rfl : k = n := by omega
          have t1 : decide ((k : Int) < (k : Int)) = false := by simp
          have t1' : decide (k < k) = false := by simp
          have hb0 := HB.out
          rw [← HTl.out] at hb0
          rcases bestK_all hb0 with ⟨rfl, hnone⟩ | ⟨j, rfl, hj, hsome⟩
          · obtain ⟨ch, r2, rfl⟩ : ∃ ch r2, r = ch :: r2 := by
              cases r with
              | nil => simp at hrl; omega
              | cons ch r2 => exact ⟨ch, r2, rfl⟩
            have d0 : wr.cell? ⟨a0, o0, none⟩ = some (.int .i64 (ch : Int)) := (hb2.cell (p := ⟨a0, o0, none⟩) hAb).trans (hca 0 ch rfl)
            have HS := Lib.hid fun W => refSingle_any ch W (HAr.out ch (by simp))
            have hAs := HAr.out ch (by simp)
            have hok := ok_col hAs.has hAs.whole
            have hs1 := hok.some
            have hs3 := hok.few
            have HRr2 : Hid (R = (o ++ singleL ch) ++ elemsL T r2) := Lib.hid (by rw [HRr.out, elemsL_none hnone, List.append_assoc])
            have HAr2 : Hid (∀ c ∈ r2, Asked c) := Lib.hid fun c hc => HAr.out c (by simp [hc])
            obtain ⟨A5, hA5, HVA0⟩ := tail_one HA1.out (by omega)
            have HVA : Hid (Arr nv w2 w2.heap.size (.slice A5 (n1 - 1) (c1 - 1)) r2) := Lib.hid HVA0
            obtain ⟨X, hX⟩ : ∃ X, singleL ch = X := ⟨_, rfl⟩
            rw [hX] at HS hs1 hs3 HRr2
            have hown := own_keep_below HOwn.out hbi
            clear hnone hX hok hAs hb0 hca hrl HVA0
            go_wp2_with fail
            refine (HS.out _).mono ?_
            rintro e w6 ⟨A3, n3, c3, rfl, hS3, k6⟩
            have hown6 := own_keep_below hown k6
            have hb6 := below_next hb2 k6
            have hbs6 := hb6.size
            have hol2 : o.length + X.length ≤ 1000000000000 := by rw [HM.out]; omega
            go_wp2_with (at_builtin; refine append_structs (val := ev) 68 71 (.agg #[.int .i64 0, .int .i64 0, .int .i64 0]) 24 Tryz.underlying68 info_elem rfl (by decide) (by decide) ev_len ev_one w6 rfl (.tmp 55) (.tmp 59) rfl w2.heap.size w6.heap.size (.slice A4 M c4) o rfl hown6 X (.slice A3 n3 c3) rfl hS3 hs1 hol2 hbs6 ?_; intro v7 w7 hown7 hb7)
            go_wp2
            go_roundw
            case rel => exact ⟨A5, n1 - 1, c1 - 1, r2, o ++ X, (by rw [← hA5]), HVA, hown7, by omega, by rw [List.length_append, HM.out]; omega, HAr2, HRr2, hb6.trans hb7⟩
            case measure => simp [lenOf]; omega
          · obtain ⟨b0, p0, rfl, hB0, hc0⟩ := lets_cells h (by have := HTl.out; omega)
            have hjk : j < k := by have := HTl.out; omega
            obtain ⟨x, hx⟩ : ∃ x, t[j]? = some x := ⟨_, List.getElem?_eq_getElem (by have := HL.out; omega)⟩
            have d1 := (hbw.cell (p := ⟨b0, p0 + j * 2 + 1, none⟩) hB0).trans (hc0 j x hx).2
            obtain ⟨-, -, -, f4, f5, f6⟩ := HF.out x (List.mem_of_getElem? hx)
            have hTj := HTx.out j x hx
            have hbs := best_some hsome
            obtain ⟨x', hx', hm0, hm1, -, hml⟩ := hbs
            have HD1 := Lib.hid fun W => refDecode_any x.2 W (by omega)
            rw [f4] at HD1
            have z1 : (j : Int) < (k : Int) := by omega
            have tj : decide ((j : Int) < 0) = false := by simp
            obtain ⟨x1, x2⟩ := x
            obtain ⟨a, ha⟩ : ∃ a, (letL (x1, x2)).2 = a := ⟨_, rfl⟩
            rw [ha] at HD1 f6
            have HS := Lib.hid fun W => refSingle_any a W f6
            have HTj : Hid (∃ tx, T[j]? = some (tx, a)) := Lib.hid ⟨(letL (x1, x2)).1, by rw [hTj, ← ha]⟩
            have HSome := Lib.hid hsome
            clear hc0 hx f4 hTj ha hb0 hsome hx' hm0
            go_wp2_with fail
            refine (HD1.out _).mono ?_
            rintro e w5 ⟨hde, k5⟩
            obtain ⟨A2, n2, c2, b', rfl, hcase⟩ := hde.form
            rcases hcase with ⟨rfl, l', hl', hn2, hA2, -⟩ | ⟨rfl, h, -⟩
            case inr => cases h
            obtain rfl := Option.some.inj hl'
            have hb5 := below_next hbi k5
            obtain rfl : n2 = 1 := hn2
            obtain ⟨a2, q2, rfl, hA2b, hc2⟩ := hA2.some_ (by decide)
            have d2 : w5.cell? ⟨a2, q2, none⟩ = some (.int .i64 (a : Int)) := hc2 0 a rfl
            clear hl' hde hc2 hA2
            go_wp2_with fail
            refine (HS.out _).mono ?_
            rintro e w6 ⟨A3, n3, c3, rfl, hS3, k6⟩
            have hb6 := below_next hb5 k6
            have hok := ok_col f6.has f6.whole
            have hS3l := hS3.len
            obtain ⟨a3, q3, rfl, hA3b, hc3⟩ := hS3.some_ ev_len (by decide) (by rw [← hS3l]; exact hok.some)
            obtain ⟨e0, es, he0⟩ : ∃ e0 es, singleL a = e0 :: es := by
              cases hq : singleL a with
              | nil => have := hok.some; rw [hq] at this; simp at this
              | cons e0 es => exact ⟨e0, es, rfl⟩
            have hpo : primOf a = e0.1 := by unfold primOf; rw [he0]
            have he1 : e0.1 ≤ 10000000 := (hok.el e0 (by rw [he0]; simp)).1
            have d3 : w6.cell? ⟨a3, q3, none⟩ = some (.int .i64 (e0.1 : Int)) := hc3 0 e0 (by rw [he0]; rfl) 0 _ rfl
            have s1 : IntKind.i64.wrap ((e0.1 : Int) + (j : Int)) = (e0.1 : Int) + (j : Int) := wraps_i64 _ (by omega) (by omega)
            have s2 : IntKind.i64.wrap ((e0.1 : Int) + (j : Int) + 1) = (e0.1 : Int) + (j : Int) + 1 := wraps_i64 _ (by omega) (by omega)
            have s3 : (0 : Int) < (n3 : Int) := by have := hok.some; omega
            have HPo := Lib.hid hpo
            obtain ⟨pe, hpe⟩ : ∃ pe, e0.1 = pe := ⟨_, rfl⟩
            rw [hpe] at d3 s1 s2 he1 HPo
            clear hc3 hok he0 hpo hpe hS3
            obtain ⟨wi, hwi⟩ : ∃ x : World, x = wr := ⟨_, rfl⟩
            subst hwi
            have hmn : m ≤ n1 := by have := hml; omega
            have HHm := Lib.hid (hm1)
            clear hml hm1
            go_wp2
            go_loopw [16] (fun iv_ wq => ∃ (i cur : Nat), i ≤ m ∧ iv_ = .int .i64 (i : Int) ∧ Box wq w6.heap.size 71 #[.int .i64 ((pe : Int) + (j : Int) + 1), .int .i64 1, .int .i64 (cur : Int)] ∧ cur ≤ 2 ∧ Hid (cur = (r.take i).foldl (fun m c => max m (capN c)) 1) ∧ Below w6.heap.size w6 wq) (fun iv_ _ => m - (intOf iv_).toNat)
            case atStart => exact ⟨0, 1, by omega, rfl, Box.made w6 _ _, by omega, Lib.hid (by simp), (Below.refl _ _).alloc (Nat.le_refl _) _⟩
            case round =>
              obtain ⟨i, cur, him, rfl, hbox, hcur, HCur, hbq⟩ := hrel
              have hbx := hbox.lt
              have hb7 : Below w2.heap.size w2 wr := below_next (below_next hb hb6) hbq
              by_cases hlt : i < m
              · have t4 : decide ((i : Int) < (m : Int)) = true := by simp; omega
                have t4' : decide (i < m) = true := by simpa using hlt
                have z4 : (i : Int) < (n1 : Int) := by omega
                obtain ⟨ch, hch⟩ : ∃ ch, r[i]? = some ch := ⟨_, List.getElem?_eq_getElem (by omega)⟩
                have d4 : wr.cell? ⟨a0, o0 + i, none⟩ = some (.int .i64 (ch : Int)) := (hb7.cell (p := ⟨a0, o0 + i, none⟩) hAb).trans (hca i ch hch)
                have d5 : wr.cell? ⟨w6.heap.size, 2, none⟩ = some (.int .i64 (cur : Int)) := by rw [hbox.cell]; rfl
                have f5 : wr.frozen? ⟨w6.heap.size, 2, none⟩ = false := hbox.free 2
                have ha0r : a0 < wr.heap.size := Nat.lt_of_lt_of_le hAb hb7.size
                have HC := Lib.hid fun W => refCapital_any ch W
                have hcb := cap_bound ch
                have HCur2 : Hid (max cur (capN ch) = (r.take (i + 1)).foldl (fun m c => max m (capN c)) 1) := Lib.hid (by rw [take_next hch, List.foldl_append, ← HCur.out]; rfl)
                obtain ⟨cc, hcc⟩ : ∃ cc, capN ch = cc := ⟨_, rfl⟩
                rw [hcc] at HC hcb HCur2
                have hmx : max (cur : Int) (cc : Int) = ((max cur cc : Nat) : Int) := by omega
                obtain ⟨mx, hmxe⟩ : ∃ mx, max cur cc = mx := ⟨_, rfl⟩
                have hmx2 : mx ≤ 2 := by omega
                rw [hmxe] at hmx HCur2
                clear hch hcc hmxe hca
                go_wp2
                go_region_with (first | (go_at_call 75; (with_reducible refine (HC.out _).mono ?_); rintro e w7 ⟨rfl, k7⟩; have d7 := (k7.cell (p := ⟨a0, o0 + i, none⟩) ha0r).trans d4; have d8 := (k7.cell (p := ⟨w6.heap.size, 2, none⟩) hbx).trans d5; have f8 := (k7.frozen (p := ⟨w6.heap.size, 2, none⟩) hbx).trans f5))
                all_goals
                  have hbox7 := hbox.drew.below k7 hbx
                  have hb8 : Below w6.heap.size w6 w7 := hbq.drew.trans (k7.mono (Nat.le_of_lt hbx))
                  go_wp2
                  go_roundw
                  case rel => exact ⟨i + 1, mx, by omega, by go_num, hbox7.put 2 _, hmx2, HCur2, below_put6 hb8 (Nat.le_refl _) _⟩
                  case measure => simp [intOf]; omega
              · obtain rfl : i = m := by omega
                have t4 : decide ((i : Int) < (i : Int)) = false := by simp
                have t4' : decide (i < i) = false := by simp
                have c0 : wr.cell? ⟨w6.heap.size, 0, none⟩ = some (.int .i64 ((pe : Int) + (j : Int) + 1)) := by rw [hbox.cell]; rfl
                have c1 : wr.cell? ⟨w6.heap.size, 1, none⟩ = some (.int .i64 1) := by rw [hbox.cell]; rfl
                have c2 : wr.cell? ⟨w6.heap.size, 2, none⟩ = some (.int .i64 (cur : Int)) := by rw [hbox.cell]; rfl
                have hown8 := own_keep_below HOwn.out (hb6.trans (hbq.mono hb6.size))
                have hbs : w2.heap.size ≤ wr.heap.size := hb7.size
                have hol2 : o.length ≤ 1000000000000 - 1 := by rw [HM.out]; omega
                obtain ⟨V, hVr, hVa⟩ := tail_any HA1.out i hmn
                have HVA := Lib.hid (hVa w2 fun _ _ => rfl)
                obtain ⟨A5, c5, rfl⟩ := HVA.out.form
                have hdl : (r.drop i).length = n1 - i := by rw [List.length_drop, hrl]
                rw [hdl] at HVA hVr
                have HY : Hid (R = (o ++ [(pe + j + 1, 1, cur)]) ++ elemsL T (r.drop i)) := Lib.hid (by
                  obtain ⟨tx, htx⟩ := HTj.out
                  rw [HRr.out, elemsL_some HSome.out, List.append_assoc]
                  unfold tailEl
                  rw [htx]
                  show o ++ ((primOf a + j + 1, 1, (r.take i).foldl (fun m c => max m (capN c)) 1) :: elemsL T (r.drop i)) = _
                  rw [HPo.out, ← HCur.out]
                  rfl)
                have HAr2 : Hid (∀ c ∈ r.drop i, Asked c) := Lib.hid fun c hc => HAr.out c (List.mem_of_mem_drop hc)
                have hpos := HHm.out
                have hb9 : Below wo.heap.size wo wr := hb6.trans (hbq.mono hb6.size)
                obtain ⟨r2, hr2⟩ : ∃ r2, r.drop i = r2 := ⟨_, rfl⟩
                rw [hr2] at HVA HY HAr2 
                clear hVa hdl hr2
                go_wp2_with (at_builtin; refine append_struct (val := ev) 68 71 (.agg #[.int .i64 0, .int .i64 0, .int .i64 0]) 24 Tryz.underlying68 info_elem rfl (by decide) (by decide) ev_len ev_one wr rfl (.tmp 97) (.tmp 99) rfl w2.heap.size (.slice A4 M c4) o rfl hown8 (pe + j + 1, 1, cur) #[.int .i64 ((pe : Int) + (j : Int) + 1), .int .i64 1, .int .i64 (cur : Int)] (by simp [ev]) wr.heap.size rfl rfl hol2 hbs ?_; intro v7 w7 hown7 hb7)
                go_wp2
                go_roundw
                case rel => exact ⟨A5, n1 - i, c5, r2, o ++ [(pe + j + 1, 1, cur)], rfl, HVA, hown7, by omega, by rw [List.length_append, HM.out]; simp; omega, HAr2, HY, (below_next hb hb9).trans hb7⟩
                case measure => simp [lenOf]; omega

end Go.Proofs.YtafnjbmeponobaaGreatDoor

namespace Go.Proofs.YtafnjbmeponobaaGreatDoor
open Go.RowKit

theorem tlv_one {y : Value × Nat} (h : y.1.oneCell' = true) : ∀ u ∈ tlv y, u.oneCell' = true := by
  intro u hu
  simp only [tlv, List.mem_cons, List.not_mem_nil, or_false] at hu
  rcases hu with rfl | rfl
  · exact h
  · rfl
/-- A letter that is kept: its Text a slice. -/
abbrev Tl := (Option Addr × Nat × Nat) × Nat
def tlw (y : Tl) : List Value := [.slice y.1.1 y.1.2.1 y.1.2.2, .int .i64 (y.2 : Int)]
theorem tlw_len (y : Tl) : (tlw y).length = 2 := rfl
theorem tlw_one (y : Tl) : ∀ u ∈ tlw y, u.oneCell' = true := by
  intro u hu
  simp only [tlw, List.mem_cons, List.not_mem_nil, or_false] at hu
  rcases hu with rfl | rfl <;> rfl
theorem info_tail : (Tryz.prog.info? 93).map (fun i => (i.zero, i.size, i.bytes)) = some (some (.agg #[.slice none 0 0, .int .i64 0]), 2, 32) := by kernel_rfl
def PrepTo (w : World) (base : Nat) (t : List RuleL) (ys : List Tl) : Prop :=
  ∀ (i : Nat) (y : Tl) (x : RuleL), ys[i]? = some y → t[i]? = some x → w.ownsRow base 3 1 (.slice y.1.1 y.1.2.1 y.1.2.2) (nL x.1).length ((nL x.1).map nv) ∧ y.2 = lwN (letL x).2 + i + 1
theorem PrepTo.keep {w w' : World} {base : Nat} {t : List RuleL} {ys : List Tl} (h : PrepTo w base t ys) (hk : ∀ (v : Value) (n : Nat) (xs : List Value), w.ownsRow base 3 1 v n xs → w'.ownsRow base 3 1 v n xs) : PrepTo w' base t ys :=
  fun i y x hy hx => ⟨hk _ _ _ (h i y x hy hx).1, (h i y x hy hx).2⟩
theorem PrepTo.next {w : World} {base : Nat} {t : List RuleL} {ys : List Tl} {y : Tl} {x : RuleL} (h : PrepTo w base t ys) (hx : t[ys.length]? = some x) (h1 : w.ownsRow base 3 1 (.slice y.1.1 y.1.2.1 y.1.2.2) (nL x.1).length ((nL x.1).map nv)) (h2 : y.2 = lwN (letL x).2 + ys.length + 1) : PrepTo w base t (ys ++ [y]) := by
  intro i z u hz hu
  rcases Nat.lt_trichotomy i ys.length with hi | hi | hi
  · rw [List.getElem?_append_left hi] at hz
    exact h i z u hz hu
  · subst hi
    rw [List.getElem?_append_right (Nat.le_refl _), Nat.sub_self] at hz
    simp at hz
    subst hz
    rw [hx] at hu
    rw [← Option.some.inj hu]
    exact ⟨h1, h2⟩
  · have := (List.getElem?_eq_some_iff.1 hz).1
    simp at this
    omega
theorem PrepTo.all {w : World} {base : Nat} {t : List RuleL} {ys : List Tl} {v : Value} (h : PrepTo w base t ys) (hown : w.ownsRow base 93 2 v ys.length (ys.flatMap tlw)) (hl : ys.length = t.length) : Ltt w w.heap.size v (t.map letL) := by
  refine ⟨ys.map fun y => (.slice y.1.1 y.1.2.1 y.1.2.2, y.2), ?_, by rw [List.length_map, List.length_map, hl], fun i y x hy hx => ?_⟩
  · have e : ys.flatMap tlw = (ys.map fun y => ((.slice y.1.1 y.1.2.1 y.1.2.2 : Value), y.2)).flatMap tlv := by rw [List.flatMap_map]; rfl
    rw [e] at hown
    refine SArr.of_own tlv_len (base := base) (e := 93) ?_
    rw [List.length_map]
    exact hown
  · rw [List.getElem?_map] at hy hx
    obtain ⟨y', hy', rfl⟩ := Option.map_eq_some_iff.1 hy
    obtain ⟨x', hx', rfl⟩ := Option.map_eq_some_iff.1 hx
    obtain ⟨h1, h2⟩ := h i y' x' hy' hx'
    exact ⟨Arr.of_own h1, h2⟩
theorem let_weight {t : List RuleL} (hv : validT t = true) {x : RuleL} (hx : x ∈ t) : 97 ≤ (letL x).2 ∧ (letL x).2 ≤ 100000 ∧ lwN (letL x).2 ≤ 10000000 := by
  obtain ⟨h1, h2⟩ := (valid_let hv).after (letL x) (List.mem_map.2 ⟨x, hx, rfl⟩)
  obtain ⟨h3, h4⟩ := af_weight h1 h2
  have h5 := (ok_of_has h1.has).1
  have h6 := prim_bound h1.has h1.whole
  omega

set_option maxRecDepth 100000 in
set_option maxHeartbeats 6400000 in
theorem prPrepare_any (A : Option Addr) (n c : Nat) (t : List RuleL) (w : World) (hS : Spans w) (h : SArr 2 rv w w.heap.size (.slice A n c) t) (hv : validT t = true) :
    Calls Tryz.prog 43 #[.slice A n c] w fun e w' => ∃ A' n' c', e = .returned (.slice A' n' c') ∧ Ltt w' w'.heap.size (.slice A' n' c') (t.map letL) ∧ Below w.heap.size w w' := by
  have HL := Lib.hid h.len
  have hfew : n ≤ 40 := by
    have := (valid_let hv).few
    rw [List.length_map, h.len] at this
    exact this
  have HF := Lib.hid (let_facts hv)
  have HWt := Lib.hid (fun (x : RuleL) (hx : x ∈ t) => let_weight hv hx)
  have HS := Lib.hid hS
  clear hS hv
  go_enter Tryz.func43, Tryz.ntmps43
  go_wp2
  go_loopw [3, 12] (fun lv iv_ wr => ∃ (k : Nat) (ys : List Tl), k ≤ n ∧ iv_ = .int .i64 (k : Int) ∧ Hid (ys.length = k) ∧ wr.ownsRow w.heap.size 93 2 lv ys.length (ys.flatMap tlw) ∧ Hid (PrepTo wr w.heap.size t ys) ∧ Below w.heap.size w wr) (fun _ iv_ _ => n - (intOf iv_).toNat)
  case atStart => exact ⟨0, [], by omega, rfl, Lib.hid rfl, World.ownsRow_nil _ _ _ _, Lib.hid (fun i y x hy => by simp at hy), Below.refl _ _⟩
  case round =>
    obtain ⟨k, ys, hk, rfl, HY, hown, HP, hb⟩ := hrel
    by_cases hlt : k < n
    · have t1 : decide ((k : Int) < (n : Int)) = true := by simp; omega
      have t1' : decide (k < n) = true := by simpa using hlt
      have kz : (k : Int) < (n : Int) := by omega
      obtain ⟨b0, p0, rfl, hB0, hc0⟩ := lets_cells h (by omega)
      obtain ⟨x, hx⟩ : ∃ x, t[k]? = some x := ⟨_, List.getElem?_eq_getElem (by have := HL.out; omega)⟩
      have d0 := (hb.cell (p := ⟨b0, p0 + k * 2, none⟩) hB0).trans (hc0 k x hx).1
      have d1 := (hb.cell (p := ⟨b0, p0 + k * 2 + 1, none⟩) hB0).trans (hc0 k x hx).2
      obtain ⟨f1, f2, f3, f4, f5, f6⟩ := HF.out x (List.mem_of_getElem? hx)
      obtain ⟨g1, g2, g3⟩ := HWt.out x (List.mem_of_getElem? hx)
      have HX := Lib.hid hx
      have HD1 := Lib.hid fun (W : World) (hW : Below w.heap.size w W) => prDecode_any x.1 W (HS.out.below hW) (by omega)
      have HD2 := Lib.hid fun (W : World) (hW : Below w.heap.size w W) => prDecode_any x.2 W (HS.out.below hW) (by omega)
      rw [f1] at HD1
      rw [f4] at HD2
      obtain ⟨x1, x2⟩ := x
      obtain ⟨a, ha⟩ : ∃ a, (letL (x1, x2)).2 = a := ⟨_, rfl⟩
      rw [ha] at HD2 g1 g2 g3
      have HA := Lib.hid ha
      have HW := Lib.hid (fun W => prWeight_any (a : Int) W (by omega) (by omega))
      rw [lw_eq g1] at HW
      obtain ⟨pw, hpw⟩ : ∃ pw, lwN a = pw := ⟨_, rfl⟩
      rw [hpw] at HW g3
      have HPw := Lib.hid hpw
      have hbV : Below w.heap.size w (wr.alloc (.cells #[.string (str x1), .string (str x2)] 60)) := below_new hb _
      have hownV := own_keep_below hown ((Below.refl wr.heap.size wr).alloc (Nat.le_refl _) (.cells #[.string (str x1), .string (str x2)] 60))
      have HPV := Lib.hid (HP.out.keep (w' := wr.alloc (.cells #[.string (str x1), .string (str x2)] 60)) fun v n xs h => own_keep_below h ((Below.refl wr.heap.size wr).alloc (Nat.le_refl _) _))
      have hboxV := Box.made wr 60 #[.string (str x1), .string (str x2)]
      obtain ⟨V, hV⟩ : ∃ V, wr.alloc (.cells #[.string (str x1), .string (str x2)] 60) = V := ⟨_, rfl⟩
      have hVs : V.heap.size = wr.heap.size + 1 := by rw [← hV]; simp
      rw [hV] at hbV hownV HPV hboxV
      have e0 : V.cell? ⟨wr.heap.size, 0, none⟩ = some (.string (str x1)) := hboxV.cell 0
      have e1 : V.cell? ⟨wr.heap.size, 1, none⟩ = some (.string (str x2)) := hboxV.cell 1
      have s1 : IntKind.i64.wrap ((pw : Int) + (k : Int)) = (pw : Int) + (k : Int) := wraps_i64 _ (by omega) (by omega)
      have s2 : IntKind.i64.wrap ((pw : Int) + (k : Int) + 1) = (pw : Int) + (k : Int) + 1 := wraps_i64 _ (by omega) (by omega)
      clear hc0 hx f1 f2 f4 ha hpw hown HP
      go_wp2_with fail
      refine (HD1.out _ hbV).mono ?_
      rintro e w5 ⟨hde, k5⟩
      obtain ⟨A2, n2, c2, b', rfl, hcase⟩ := hde.form
      rcases hcase with ⟨rfl, l', hl', hn2, -, hO2⟩ | ⟨rfl, h', -⟩
      case inr => cases h'
      obtain rfl := Option.some.inj hl'
      have hO5 := own_less (show w.heap.size ≤ V.heap.size from hbV.size) hO2
      have e5 : w5.cell? ⟨wr.heap.size, 1, none⟩ = some (.string (str x2)) := (k5.cell (p := ⟨wr.heap.size, 1, none⟩) (by show wr.heap.size < V.heap.size; omega)).trans e1
      have hown5 := own_keep_below hownV k5
      have HP5 := Lib.hid (HPV.out.keep fun v n xs h => own_keep_below h k5)
      have hb5 : Below w.heap.size w w5 := below_next hbV k5
      clear hde hl' hO2 hownV HPV e0 e1 hn2
      go_wp2_with fail
      refine (HD2.out _ hb5).mono ?_
      rintro e w6 ⟨hde, k6⟩
      obtain ⟨A3, n3, c3, b', rfl, hcase⟩ := hde.form
      rcases hcase with ⟨rfl, l', hl', hn3, hA3, -⟩ | ⟨rfl, h', -⟩
      case inr => cases h'
      obtain rfl := Option.some.inj hl'
      obtain rfl : n3 = 1 := hn3
      obtain ⟨a3, q3, rfl, hA3b, hc3⟩ := hA3.some_ (by decide)
      have d2 : w6.cell? ⟨a3, q3, none⟩ = some (.int .i64 (a : Int)) := hc3 0 a rfl
      have hO6 := own_keep_below hO5 k6
      have hown6 := own_keep_below hown5 k6
      have HP6 := Lib.hid (HP5.out.keep fun v n xs h => own_keep_below h k6)
      have hb6 : Below w.heap.size w w6 := below_next hb5 k6
      have hb6s := hb6.size
      have hyl : ys.length ≤ 1000000000000 - 1 := by rw [HY.out]; omega
      clear hde hl' hc3 hA3 hO5 hown5 HP5
      go_wp2_with fail
      refine (HW.out _).mono ?_
      rintro e w7 ⟨rfl, rfl⟩
      go_wp2_with (at_builtin; refine append_struct_g (val := tlw) 66 93 (.agg #[.slice none 0 0, .int .i64 0]) 32 Tryz.underlying66 info_tail rfl (by decide) (by decide) tlw_len tlw_one _ rfl (.tmp 29) (.tmp 39) rfl w.heap.size _ ys rfl hown6 ((A2, n2, c2), pw + k + 1) #[.slice A2 n2 c2, .int .i64 ((pw : Int) + (k : Int) + 1)] (by simp [tlw]) _ rfl rfl hyl hb6s ?_; intro v8 w8 hown8 hg8)
      have HP8 := Lib.hid ((HP6.out.keep fun v n xs h => own_apart h hown6 (by decide) hg8).next (y := ((A2, n2, c2), pw + k + 1)) (by rw [HY.out]; exact HX.out) (own_apart hO6 hown6 (by decide) hg8) (by rw [HA.out, HPw.out, HY.out]))
      have hb8 := hb6.trans (below_own hown6 hb6s hg8)
      go_wp2
      go_roundw
      case rel => exact ⟨k + 1, ys ++ [((A2, n2, c2), pw + k + 1)], by omega, by go_num, Lib.hid (by rw [List.length_append, HY.out]; rfl), hown8, HP8, hb8⟩
      case measure => simp [intOf]; omega
    · obtain rfl : k = n := by omega
      have t1 : decide ((k : Int) < (k : Int)) = false := by simp
      have t1' : decide (k < k) = false := by simp
      have HE := Lib.hid (HP.out.all hown (by rw [HY.out, HL.out]))
      obtain ⟨A4, c4, h4⟩ := (SArr.of_own tlw_len hown).form
      subst h4
      go_wp2
      go_ret
      exact ⟨_, _, _, rfl, HE.out, hb⟩

end Go.Proofs.YtafnjbmeponobaaGreatDoor
