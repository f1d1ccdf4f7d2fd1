/-
  The program's estimate, takeMultiple.
-/
import Derived.Test.YtheadamdhjhnpaaDoorQuo
namespace Go.Proofs.YtheadamdhjhnpaaDoor
open Go.RowKit

theorem Arr.tail {α : Type} {val : α → Value} {w : World} {B n c b off : Nat} {xs : List α} (h : Arr val w B (.slice (some ⟨b, off, none⟩) n c) xs) (m : Nat) (hm : m < n) : Arr val w B (.slice (some ⟨b, off + m, none⟩) (n - m) (c - m)) (xs.drop m) := by
  have hn := h.len
  have hcap := h.cap
  rcases h with ⟨e, rfl⟩ | ⟨a, c', e, hc, hb, hcell⟩
  · injection e with e1 e2 e3; cases e1
  · injection e with e1 e2 e3
    injection e1 with e1
    subst e1 e3
    refine .inr ⟨⟨b, off + m, none⟩, c - m, by rw [List.length_drop, hn], by rw [List.length_drop]; omega, fun _ => hb (by omega), fun i u hu => ?_⟩
    rw [List.getElem?_drop] at hu
    have := hcell (m + i) u hu
    rw [add_plain] at this ⊢
    rw [Nat.add_assoc]
    exact this

theorem lead_tail (b off n c m : Nat) (l : List Nat) (B : Nat) (w : World) (h : Arr nv w B (.slice (some ⟨b, off, none⟩) n c) l) (hl : Dig l) (hn : n - m ≤ 4) (hm : m < n) (x : Nat) (hx : vl (l.drop m) = x) :
    Calls Tryd.prog 45 #[.slice (some ⟨b, off + m, none⟩) (n - m) (c - m)] w fun e w' => e = .returned (.int .u64 (x : Int)) ∧ w = w' := by
  subst hx
  exact leading_any _ _ _ _ B w (h.tail m hm) (fun d hd => hl d (List.mem_of_mem_drop hd)) hn

theorem quo_val {a b : Nat} (h : a / b ≤ 65536) : Ending.returned (.int .i64 (IntKind.i64.wrap (IntKind.u64.wrap ((a : Int) / (b : Int))))) = Ending.returned (.int .i64 ((a / b : Nat) : Int)) := by
  have e : (a : Int) / (b : Int) = ((a / b : Nat) : Int) := by simp
  obtain ⟨q, hq⟩ : ∃ q, q = a / b := ⟨_, rfl⟩
  rw [e, ← hq]
  rw [← hq] at h
  rw [wraps_u64 _ (by omega) (by omega), wraps_i64 _ (by omega) (by omega)]

set_option maxHeartbeats 1600000 in
theorem estimate_any (g off n c b1 o1 n' c' b : Nat) (D : List Nat) (B : Nat) (w : World) (hD : Arr nv w B (.slice (some ⟨g, off, none⟩) n c) D) (hDd : Dig D) (hm : Arr nv w B (.slice (some ⟨b1, o1, none⟩) n' c') (dg b)) (hn : n = n' + 1) (hn' : n' ≤ 1000) (hb0 : 0 < b) (hlt : vl D < b * 65536) :
    Calls Tryd.prog 76 #[.slice (some ⟨g, off, none⟩) n c, .slice (some ⟨b1, o1, none⟩) n' c'] w fun e w' => ∃ t : Nat, e = .returned (.int .i64 (t : Int)) ∧ (t = vl D / b ∨ t = vl D / b + 1) ∧ t ≤ 65536 ∧ ∃ k, w' = w.drewN k := by
  have hDl := hD.len
  have hml := hm.len
  have hcap := hD.cap
  have hcap' := hm.cap
  have hn0 : 0 < n' := by
    have : n' ≠ 0 := by rw [← hml]; intro e; have := dg_eq_nil.1 (List.length_eq_zero_iff.1 e); omega
    omega
  obtain ⟨hB, hE⟩ := est_list hDd (by omega) hml hb0 hlt
  obtain ⟨L, hL⟩ : ∃ L, L = n' - 3 := ⟨_, rfl⟩
  rw [← hL] at hB hE
  obtain ⟨tD, htD⟩ : ∃ x, vl (D.drop L) = x := ⟨_, rfl⟩
  obtain ⟨tB, htB⟩ : ∃ x, vl ((dg b).drop L) = x := ⟨_, rfl⟩
  rw [htD, htB] at hE
  rw [htB] at hB
  have hq : tD / tB ≤ 65536 := by
    have h1 : vl D / b < 65536 := (Nat.div_lt_iff_lt_mul hb0).2 (by rw [Nat.mul_comm]; exact hlt)
    omega
  have htD2 : tD < 18446744073709551616 := by
    have h1 := vl_drop_lt hDd (k := L) (m := 4) (by omega)
    have h2 : pw 4 = 18446744073709551616 := by decide
    rw [htD] at h1
    omega
  have htB2 : tB < 18446744073709551616 := by
    have h1 := vl_drop_lt (dig_dg b) (k := L) (m := 4) (by omega)
    have h2 : pw 4 = 18446744073709551616 := by decide
    rw [htB] at h1
    omega
  have hmax : (if (0 : Int) > (n' : Int) - 3 then (0 : Int) else (n' : Int) - 3) = (L : Int) := by split <;> omega
  have hs1 := tail_nat g off n L c (by omega) (by omega)
  have hs2 := tail_nat b1 o1 n' L c' (by omega) (by omega)
  have hz : ((tB : Int) == 0) = false := beq_false_of_ne (by omega)
  have hB0 : ¬ tB = 0 := by omega
  have HE := Lib.hid hE
  have f1 : n - L ≤ 4 := by omega
  have f2 : L < n := by omega
  have f3 : n' - L ≤ 4 := by omega
  have f4 : L < n' := by omega
  have hdm := dig_dg b
  go_enter Tryd.func76, Tryd.ntmps76
  go_wp2_with fail
  rw [← hL]
  clear hL hmax hE hb0 hlt hn hdm
  have HQ := Lib.hid hq
  clear hq
  have hdm := dig_dg b
  go_region_held3 (fun _ => True) (trivial)
    (first
      | (go_at_call 45; (with_reducible refine (lead_tail g off n c L D B _ hD.drew hDd f1 f2 tD htD).mono ?_); rintro e w1 ⟨rfl, rfl⟩)
      | (go_at_call 45; (with_reducible refine (lead_tail b1 o1 n' c' L (dg b) B _ hm.drew hdm f3 f4 tB htB).mono ?_); rintro e w1 ⟨rfl, rfl⟩))
  all_goals
    go_wp2
    go_ret
    exact ⟨tD / tB, quo_val HQ.out, HE.out, HQ.out, 1, rfl⟩

theorem arr_seg {w : World} {g off n c : Nat} {pre D post : List Nat} (hb : Box w g 3 (cellsOf (pre ++ (D ++ post)))) (hoff : pre.length = off) (hn : D.length = n) (hnc : n ≤ c) : Arr nv w (g + 1) (.slice (some ⟨g, off, none⟩) n c) D := by
  subst hoff hn
  refine .inr ⟨_, c, rfl, hnc, fun _ => by simp, fun i u hu => ?_⟩
  rw [add_plain, hb.cell]
  refine cellsOf_at ?_
  rw [List.getElem?_append_right (by omega), Nat.add_sub_cancel_left, List.getElem?_append_left (List.getElem?_eq_some_iff.1 hu).1]
  exact hu

set_option maxHeartbeats 1600000 in
theorem takeMul_any (g off n c b1 o1 n' c' b : Nat) (pre D post : List Nat) (w : World) (hb : Box w g 3 (cellsOf (pre ++ (D ++ post)))) (hoff : pre.length = off) (hDl : D.length = n) (hDd : Dig D)
    (hm : Arr nv w g (.slice (some ⟨b1, o1, none⟩) n' c') (dg b)) (hn : n = n' + 1) (hn' : n' ≤ 1000) (hoff2 : off ≤ 100000) (hnc : n ≤ c) (hb0 : 0 < b) (hlt : vl D < b * 65536) :
    Calls Tryd.prog 69 #[.slice (some ⟨g, off, none⟩) n c, .slice (some ⟨b1, o1, none⟩) n' c'] w fun e w' =>
      ∃ ds : List Nat, e = .returned (.int .i64 ((vl D / b : Nat) : Int)) ∧ ds.length = D.length ∧ Dig ds ∧ vl ds = vl D % b ∧ Box w' g 3 (cellsOf (pre ++ (ds ++ post))) ∧ w.grownBy w' (some g) := by
  have hml := hm.len
  have hbp : b < pw n' := by
    have := vl_lt' (dig_dg b)
    rwa [vl_dg, hml] at this
  have hDn : D.length = n' + 1 := by omega
  have hD := arr_seg hb hoff hDl hnc
  have HQ : Hid (vl D / b < 65536) := Lib.hid ((Nat.div_lt_iff_lt_mul hb0).2 (by rw [Nat.mul_comm]; exact hlt))
  obtain ⟨q, hq⟩ : ∃ q, q = vl D / b := ⟨_, rfl⟩
  rw [← hq] at HQ ⊢
  have HG := fun (t : Nat) (ds : List Nat) (cy : Int) (he : AddEnd D (dg b) (-(t : Int)) cy ds) => take_guess hDn hlt hbp hb0 he
  have HGH := Lib.hid HG
  have HLT := Lib.hid hlt
  have HB0 := Lib.hid hb0
  have hle : n' ≤ n := by omega
  have hn1 : n ≤ 100000 := by omega
  have HN := Lib.hid hn
  clear HG hbp hlt hb0 hn hDn
  go_enter Tryd.func69, Tryd.ntmps69
  go_wp2_with fail
  refine (estimate_any g off n c b1 o1 n' c' b D (g + 1) w hD hDd (hm.more (by omega)) HN.out hn' HB0.out HLT.out).mono ?_
  rintro e w1 ⟨t, rfl, ht, ht2, q1, rfl⟩
  have HT0 := Lib.hid ht
  have HQ2 := Lib.hid hq
  clear ht hq
  go_wp2_with fail
  refine (addMul_any g off n c (some ⟨b1, o1, none⟩) n' c' pre D post (dg b) (-(t : Int)) _ (hb.drewN q1) hoff hDl hDd (hm.drewN q1) (dig_dg b) hle (by omega) hn1 hoff2 hnc).mono ?_
  rintro e w2 ⟨cy, ds, rfl, hE, hb2, hg2⟩
  have hdl := hE.1
  have hdd := hE.2.1
  have hg3 : w.grownBy w2 (some g) := grown_trans (grown_drewN q1) hg2
  rcases HT0.out with ht | ht
  · obtain ⟨h1, h2⟩ := (HGH.out t ds cy hE).1 ht
    subst h1
    have HR := Lib.hid h2
    have HT : Hid (t = q) := Lib.hid (by rw [ht, HQ2.out])
    clear hE h2 ht
    go_wp2
    go_ret
    refine ⟨ds, ?_, hdl, hdd, HR.out, hb2, hg3⟩
    rw [HT.out]; rfl
  · obtain ⟨h1, h2⟩ := (HGH.out t ds cy hE).2 ht
    subst h1
    have HR := Lib.hid h2
    have HT : Hid (t = q + 1) := Lib.hid (by rw [ht, HQ2.out])
    have ht3 : 1 ≤ t := by have := HT.out; omega
    have hds : ds.length = n := by omega
    have hm2 : Arr nv w2 g (.slice (some ⟨b1, o1, none⟩) n' c') (dg b) := hm.grown hg3 (Nat.le_refl _) (Nat.le_of_lt hb.lt)
    clear hE h2 ht
    have HDS := Lib.hid hds
    clear hds
    go_wp2_with fail
    refine (addMul_any g off n c (some ⟨b1, o1, none⟩) n' c' pre ds post (dg b) 1 _ hb2 hoff HDS.out hdd hm2 (dig_dg b) hle (by omega) hn1 hoff2 hnc).mono ?_
    rintro e w3 ⟨cy3, ds3, rfl, hE3, hb3, hg4⟩
    have hv := HR.out ds3 cy3 hE3
    have hdl3 := hE3.1
    have hdd3 := hE3.2.1
    have HV := Lib.hid hv
    clear hE3 hv
    go_wp2
    go_ret
    refine ⟨ds3, ?_, hdl3.trans hdl, hdd3, HV.out, hb3, grown_trans hg3 hg4⟩
    rw [HT.out]
    exact ret_int (by omega)

end Go.Proofs.YtheadamdhjhnpaaDoor
