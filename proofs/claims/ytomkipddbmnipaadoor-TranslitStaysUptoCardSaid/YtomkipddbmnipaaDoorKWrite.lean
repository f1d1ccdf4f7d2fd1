/-
  The program's run of a direction over an encoded string.
-/
import Derived.Test.YtomkipddbmnipaaDoorPkAM
import Derived.Test.YtomkipddbmnipaaDoorPkAG
import Derived.Deep.LoopGhost
namespace Go.Proofs.YtomkipddbmnipaaDoor
open Go.RowKit Go.Sort

/-- None of the first k sorted rules begins r. -/
def NoneTo (d : Bool) (t : List RuleL) (M : List Nat) (r : List UInt8) (k : Nat) : Prop := ∀ i ∈ M.take k, begB r (pick d (tabOf t i)).1 = false
theorem noneTo_zero (d : Bool) (t : List RuleL) (M : List Nat) (r : List UInt8) : NoneTo d t M r 0 := fun i hi => by simp at hi
theorem noneTo_next {d : Bool} {t : List RuleL} {M : List Nat} {r : List UInt8} {k i : Nat} (h : NoneTo d t M r k) (hi : M[k]? = some i) (hb : begB r (pick d (tabOf t i)).1 = false) : NoneTo d t M r (k + 1) := by
  intro j hj
  rw [take_next hi] at hj
  rcases List.mem_append.1 hj with hj | hj
  · exact h j hj
  · rw [List.mem_singleton.1 hj]; exact hb
theorem noneTo_hit {d : Bool} {t : List RuleL} {M : List Nat} {r : List UInt8} {k i : Nat} (hS : Short d (tabOf t)) (hM : Srtd (cls d (tabOf t)) (List.range t.length) M) (h : NoneTo d t M r k) (hi : M[k]? = some i) (hb : begB r (pick d (tabOf t i)).1 = true) : bestL (t.map (pick d)) r = some (pick d (tabOf t i)) := by
  have e : M = M.take k ++ i :: M.drop (k + 1) := by
    obtain ⟨h1, h2⟩ := List.getElem?_eq_some_iff.1 hi
    have := List.drop_eq_getElem_cons h1
    rw [h2] at this
    rw [← this, List.take_append_drop]
  rw [e] at hM
  exact first_some hS hM h hb
theorem noneTo_all {d : Bool} {t : List RuleL} {M : List Nat} {r : List UInt8} (hM : Srtd (cls d (tabOf t)) (List.range t.length) M) (h : NoneTo d t M r t.length) : bestL (t.map (pick d)) r = none := by
  refine first_none hM fun i hi => h i ?_
  rw [List.take_of_length_le (by rw [sorted_len hM]; exact Nat.le_refl _)]
  exact hi
theorem below_grow {w w' w'' : World} (h : Below w.heap.size w w') (h2 : ∃ q os, w'' = grow (w'.drewN q) os) : Below w.heap.size w w'' := by
  obtain ⟨q, os, rfl⟩ := h2
  exact below_next h (grow_below q os)
theorem below_grow' {B : Nat} {w w' w'' : World} (h : Below B w w') (hB : B ≤ w'.heap.size) (h2 : ∃ q os, w'' = grow (w'.drewN q) os) : Below B w w'' := by
  obtain ⟨q, os, rfl⟩ := h2
  exact h.trans ((grow_below q os).mono hB)
theorem strs_full {a : List UInt8} (h : a ≠ []) : ((str a).toList != []) = true := by
  rw [str_toList]
  cases a with
  | nil => exact absurd rfl h
  | cons x a => rfl
/-- The table of a direction. -/
structure GoodDir (d : Bool) (t : List RuleL) : Prop where
  good : Good (t.map (pick d))
  short : ∀ x ∈ t, x.1.length ≤ 1000 ∧ x.2.length ≤ 1000
  few : t.length ≤ 1000
theorem GoodDir.side {d : Bool} {t : List RuleL} (h : GoodDir d t) {i : Nat} (hi : i < t.length) : sideB (pick d (tabOf t i)).1 = true := h.good _ (List.mem_of_getElem? (map_pick d t i hi))
theorem GoodDir.len {d : Bool} {t : List RuleL} (h : GoodDir d t) (i : Nat) : (pick d (tabOf t i)).1.length ≤ 1000 ∧ (pick d (tabOf t i)).2.length ≤ 1000 := by
  have key : (tabOf t i).1.length ≤ 1000 ∧ (tabOf t i).2.length ≤ 1000 := by
    by_cases hi : i < t.length
    · rw [tab_get7 (List.getElem?_eq_getElem hi)]
      exact h.short _ (List.getElem_mem hi)
    · unfold tabOf
      rw [List.getD, List.getElem?_eq_none (by omega)]
      exact ⟨Nat.zero_le _, Nat.zero_le _⟩
  unfold pick
  split
  · exact key
  · exact ⟨key.2, key.1⟩

set_option maxRecDepth 100000 in
set_option maxHeartbeats 12800000 in
theorem writeF_any (t : List RuleL) (g n cap : Nat) (M : List Nat) (s : List UInt8) (L : List Nat) (w : World) (hS : Ready7 w) (hn : t.length = n) (hg : GoodDir true t) (hM : Srtd (cls true (tabOf t)) (List.range t.length) M) (hR : Row (tabOf t) w g cap M) (hs : decR s = some L) (hlen : s.length ≤ 5000) :
    Calls Tryd.prog 36 #[.agg #[.slice (some ⟨g, 0, none⟩) n cap, .func (.func 48) #[] #[]], .string (str s)] w fun e w' =>
      e = .returned (.tuple #[.string (str (runL (t.map (pick true)) s).1), .bool (decide ((runL (t.map (pick true)) s).2 = 0))]) ∧ Below w.heap.size w w' := by
  have HSh : Hid (Short true (tabOf t)) := Lib.hid (tab_short hg.short true)
  have HN := Lib.hid hn
  have HG := Lib.hid hg
  have HM := Lib.hid hM
  have HR := Lib.hid hR
  have HRdy := Lib.hid hS
  have hgl := hR.lt
  have hn1 : n ≤ 1000 := by have := hg.few; omega
  have hml : M.length = n := by rw [sorted_len hM, hn]
  have HML := Lib.hid hml
  obtain ⟨T, hT⟩ : ∃ T, t.map (pick true) = T := ⟨_, rfl⟩
  have HT := Lib.hid hT
  rw [hT]
  obtain ⟨R1, hR1⟩ : ∃ R, (runL T s).1 = R := ⟨_, rfl⟩
  obtain ⟨R2, hR2⟩ : ∃ R, decide ((runL T s).2 = 0) = R := ⟨_, rfl⟩
  rw [hR1, hR2]
  have HR12 : Hid ((runL T s).1 = R1 ∧ decide ((runL T s).2 = 0) = R2) := Lib.hid ⟨hR1, hR2⟩
  have HD : Hid (∃ l, decR s = some l) := Lib.hid ⟨_, hs⟩
  obtain ⟨N, hNN⟩ : ∃ N, s.length = N := ⟨_, rfl⟩
  have HNN := Lib.hid hNN
  rw [hNN] at hlen
  clear hR1 hR2 hs hg hNN hM hR hS hn hml hT
  go_enter Tryd.func36, Tryd.ntmps36
  obtain ⟨wd, hwd⟩ : ∃ wd, w.alloc (.cells #[.slice (some ⟨g, 0, none⟩) n cap, .func (.func 48) #[] #[]] 51) = wd := ⟨_, rfl⟩
  have hbd : Below w.heap.size w wd := by rw [← hwd]; exact (Below.refl _ _).alloc (Nat.le_refl _) _
  have hsd : wd.heap.size = w.heap.size + 1 := by rw [← hwd]; simp
  have q0 : wd.cell? ⟨w.heap.size, 0, none⟩ = some (.slice (some ⟨g, 0, none⟩) n cap) := by rw [← hwd]; simp
  have q1 : wd.cell? ⟨w.heap.size, 1, none⟩ = some (.func (.func 48) #[] #[]) := by rw [← hwd]; simp
  have HB0 : Hid (Built (w.heap.size + 1) (w.heap.size + 1) [] (wd.alloc (.cells #[.pointer none, .slice none 0 0] 65))) := Lib.hid (by have := Built.fresh wd; rw [hsd] at this; exact this)
  have hbd1 : Below (w.heap.size + 1) wd (wd.alloc (.cells #[.pointer none, .slice none 0 0] 65)) := (Below.refl _ _).alloc (by omega) _
  have HRd : Hid (Row (tabOf t) wd g cap M ∧ Ready7 wd) := Lib.hid ⟨HR.out.below hbd, HRdy.out.below hbd⟩
  go_wp2
  go_step3
  go_wp2
  go_step3
  go_wp2
  go_loopg [1, 5] N (fun g1 s1 s5 wr => ∃ (r o : List UInt8) (cv : Bool), s1 = .string (str r) ∧ s5 = .bool cv ∧ r.length ≤ g1 ∧ r.length ≤ N ∧ Hid (o.length + 1000 * r.length ≤ 1000 * N) ∧ Hid (∃ l, decR r = some l) ∧ Hid ((runL T s).1 = o ++ (runL T r).1 ∧ decide ((runL T s).2 = 0) = (cv && decide ((runL T r).2 = 0))) ∧ Hid (Built (w.heap.size + 1) (w.heap.size + 1) o wr) ∧ Below (w.heap.size + 1) wd wr)
  case atStart => exact ⟨s, [], true, rfl, rfl, Nat.le_of_eq HNN.out, Nat.le_of_eq HNN.out, Lib.hid (by simp [HNN.out]), HD, Lib.hid ⟨rfl, by simp⟩, HB0, hbd1⟩
  case round =>
    obtain ⟨r, o, cv, rfl, rfl, hrg, hrN, Hol, Hd, HRun, HB, hb⟩ := hrel
    have hsr : (str r).size = r.length := rfl
    have hws := hb.size
    rw [hsd] at hws
    by_cases h0 : r = []
    · subst h0
      have z0 : (str ([] : List UInt8)).toList = [] := str_toList []
      have z1 : ((str ([] : List UInt8)).toList != []) = false := by rw [z0]; rfl
      have HE : Hid (R1 = o ∧ R2 = cv) := Lib.hid (by
        have h1 := HRun.out
        rw [HR12.out.1, HR12.out.2, run_nil] at h1
        exact ⟨by simpa using h1.1, by simpa using h1.2⟩)
      have HSt := Lib.hid (buildStr_k (w.heap.size + 1) (w.heap.size + 1) o wr HB.out hws)
      go_wp2_with fail
      refine HSt.out.mono ?_
      rintro e w3 ⟨rfl, k3⟩
      have hbw : Below w.heap.size w w3 := hbd.trans ((hb.trans k3).mono (Nat.le_succ _))
      go_wp2
      (try rw [Exit.noGoto_ret])
      go_ret2
      rw [HE.out.1, HE.out.2]
      exact ⟨rfl, hbw⟩
    · obtain ⟨g2, rfl⟩ : ∃ g2, gk = g2 + 1 := ⟨gk - 1, by have := List.length_pos_iff.2 h0; omega⟩
      have z0 : ¬ (str r).toList = [] := by rw [str_toList]; exact h0
      have z1 := strs_full h0
      have z2 := strs_some h0
      have hr1 : 1 ≤ r.length := List.length_pos_iff.2 h0
      have H0 := Lib.hid h0
      have e0 : wr.cell? ⟨w.heap.size, 0, none⟩ = some (.slice (some ⟨g, 0, none⟩) n cap) := (hb.cell (p := ⟨w.heap.size, 0, none⟩) (Nat.lt_succ_self _)).trans q0
      have e1 : wr.cell? ⟨w.heap.size, 1, none⟩ = some (.func (.func 48) #[] #[]) := (hb.cell (p := ⟨w.heap.size, 1, none⟩) (Nat.lt_succ_self _)).trans q1
      clear h0
      go_wp2
      go_loopg [1, 20] n (fun g3 s1 s20 wi => ∃ k : Nat, k + g3 = n ∧ s1 = .string (str r) ∧ s20 = .int .i64 (k : Int) ∧ Hid (NoneTo true t M r k) ∧ Hid (Built (w.heap.size + 1) (w.heap.size + 1) o wi) ∧ Below (w.heap.size + 1) wd wi)
      case atStart => exact ⟨0, Nat.zero_add _, rfl, rfl, Lib.hid (noneTo_zero _ _ _ _), HB, hb⟩
      case round =>
        clear e0 e1 HB hb hws
        obtain ⟨k, hkg, rfl, rfl, HNo, HB, hb⟩ := hrel
        have hws := hb.size
        rw [hsd] at hws
        have e0 : wr.cell? ⟨w.heap.size, 0, none⟩ = some (.slice (some ⟨g, 0, none⟩) n cap) := (hb.cell (p := ⟨w.heap.size, 0, none⟩) (Nat.lt_succ_self _)).trans q0
        have e1 : wr.cell? ⟨w.heap.size, 1, none⟩ = some (.func (.func 48) #[] #[]) := (hb.cell (p := ⟨w.heap.size, 1, none⟩) (Nat.lt_succ_self _)).trans q1
        by_cases hlt : k < n
        · obtain ⟨g4, rfl⟩ : ∃ g4, gk = g4 + 1 := ⟨gk - 1, by omega⟩
          have t1 : decide ((k : Int) < (n : Int)) = true := by simp; omega
          have kz : (k : Int) < (n : Int) := by omega
          obtain ⟨i, hi⟩ := get_some (l := M) (i := k) (by rw [HML.out]; exact hlt)
          have hil : i < t.length := (sorted_mem HM.out).1 (List.mem_of_getElem? hi)
          have hRw : Row (tabOf t) wr g cap M := HRd.out.1.below (hb.mono (by rw [hsd]; exact Nat.le_refl _))
          have d0 := (hRw.cells hi).1
          have d1 := (hRw.cells hi).2
          obtain ⟨x, hx⟩ : ∃ x, tabOf t i = x := ⟨_, rfl⟩
          rw [hx] at d0 d1
          obtain ⟨y, hy⟩ : ∃ y, pick true x = y := ⟨_, rfl⟩
          have hxl := HG.out.len i
          rw [hx, hy] at hxl
          have HX := Lib.hid (fun W => sidesF_any x W)
          have hyv : x.1 = y.1 ∧ x.2 = y.2 := by rw [← hy]; exact ⟨rfl, rfl⟩
          rw [hyv.1, hyv.2] at HX
          rw [hyv.1] at d0
          rw [hyv.2] at d1
          have e2 : (wr.alloc (.cells #[.string (str y.1), .string (str y.2)] 41)).cell? ⟨w.heap.size, 1, none⟩ = some (.func (.func 48) #[] #[]) := Lib.cell?_alloc_some _ e1
          have HCP := Lib.hid (fun W => cutPrefix_any r y.1 W)
          obtain ⟨bb, hbb⟩ : ∃ b, begB r y.1 = b := ⟨_, rfl⟩
          rw [hbb] at HCP
          cases bb with
          | true =>
            have hbest : bestL T r = some y := by
              rw [← HT.out]
              have := noneTo_hit HSh.out HM.out HNo.out hi (by rw [hx, hy]; exact hbb)
              rw [hx, hy] at this
              exact this
            have hGT : Good T := by rw [← HT.out]; exact HG.out.good
            obtain ⟨l, hl⟩ := Hd.out
            have hrn := run_some hGT hl H0.out hbest
            obtain ⟨hym, hby⟩ := best_mem hbest
            obtain ⟨kk, hkk, _, _, _, _⟩ := side_enc (hGT y hym)
            obtain ⟨m, hm, _⟩ := enc_rest hl hkk hby
            have hy1 : 1 ≤ y.1.length := List.length_pos_iff.2 (side_ne (hGT y hym))
            have hyr := beg_len hby
            have HRun2 : Hid ((runL T s).1 = (o ++ y.2) ++ (runL T (r.drop y.1.length)).1 ∧ decide ((runL T s).2 = 0) = (cv && decide ((runL T (r.drop y.1.length)).2 = 0))) := Lib.hid (by
              have h1 := HRun.out
              rw [hrn] at h1
              exact ⟨by rw [h1.1, List.append_assoc], h1.2⟩)
            have Hd2 : Hid (∃ l, decR (r.drop y.1.length) = some l) := Lib.hid ⟨m, hm⟩
            have hdl : (r.drop y.1.length).length + y.1.length = r.length := by rw [List.length_drop]; omega
            obtain ⟨r2, hr2⟩ : ∃ x, r.drop y.1.length = x := ⟨_, rfl⟩
            rw [hr2] at HRun2 Hd2 hdl
            have HCP2 : Hid (∀ W, Calls Tryd.prog 49 #[.string (str r), .string (str y.1)] W fun e w' => e = .returned (.tuple #[.string (str r2), .bool true]) ∧ w' = W) := Lib.hid (by
              intro W
              have h1 := HCP.out W
              rw [if_pos rfl, hr2] at h1
              exact h1)
            have Hol2 : Hid ((o ++ y.2).length + 1000 * r2.length ≤ 1000 * N) := Lib.hid (by have := Hol.out; rw [List.length_append]; omega)
            have hrg2 : r2.length ≤ g2 := by omega
            have hrN2 : r2.length ≤ N := by omega
            have hol : o.length ≤ 100000000 := by have := Hol.out; omega
            have hyl : y.2.length ≤ 100000000 := by omega
            clear hi hil hRw hx hy hxl hyv hbb hbest hGT hl hrn hym hby hkk hm hy1 hyr hdl hr2 HCP
            go_wp2_with fail
            refine (HX.out _).mono ?_
            rintro e w1 ⟨rfl, hw1⟩
            have hb1 : Below wr.heap.size wr w1 := below_grow ((Below.refl _ _).alloc (Nat.le_refl _) _) hw1
            have HB1 := Lib.hid (HB.out.below hb1)
            have hb2 : Below (w.heap.size + 1) wd w1 := hb.trans (hb1.mono hws)
            have hws1 : w.heap.size + 1 ≤ w1.heap.size := Nat.le_trans hws hb1.size
            clear hw1 hb1
            go_wp2_with fail
            refine (HCP2.out _).mono ?_
            rintro e w2 ⟨rfl, rfl⟩
            have HW := Lib.hid (writeStr_k (w.heap.size + 1) (w.heap.size + 1) o y.2 w2 HB1.out hol hyl hws1)
            go_wp2_with fail
            refine HW.out.mono ?_
            rintro e w3 ⟨⟨_, rfl⟩, hB3, k3⟩
            have HB3 := Lib.hid hB3
            have hb3 := hb2.trans k3
            clear hB3 k3
            go_wp2
            go_roundg g2
            case measure => omega
            case rel => exact ⟨r2, o ++ y.2, cv, rfl, rfl, hrg2, hrN2, Hol2, Hd2, HRun2, HB3, hb3⟩
          | false =>
            have HNo2 : Hid (NoneTo true t M r (k + 1)) := Lib.hid (noneTo_next HNo.out hi (by rw [hx, hy]; exact hbb))
            have HCP2 : Hid (∀ W, Calls Tryd.prog 49 #[.string (str r), .string (str y.1)] W fun e w' => e = .returned (.tuple #[.string (str r), .bool false]) ∧ w' = W) := Lib.hid (by
              intro W
              have h1 := HCP.out W
              rw [if_neg (by simp)] at h1
              exact h1)
            clear hi hil hRw hx hy hxl hyv hbb HCP
            go_wp2_with fail
            refine (HX.out _).mono ?_
            rintro e w1 ⟨rfl, hw1⟩
            have hb1 : Below wr.heap.size wr w1 := below_grow ((Below.refl _ _).alloc (Nat.le_refl _) _) hw1
            have HB1 := Lib.hid (HB.out.below hb1)
            have hb2 : Below (w.heap.size + 1) wd w1 := hb.trans (hb1.mono hws)
            clear hw1 hb1
            go_wp2_with fail
            refine (HCP2.out _).mono ?_
            rintro e w2 ⟨rfl, rfl⟩
            go_wp2
            go_roundg g4
            case measure => omega
            case rel => exact ⟨k + 1, by omega, rfl, by go_num, HNo2, HB1, hb2⟩
        · obtain rfl : k = n := by omega
          have t1 : decide ((k : Int) < (k : Int)) = false := by simp
          have hbest : bestL T r = none := by
            rw [← HT.out]
            exact noneTo_all HM.out (by rw [HN.out]; exact HNo.out)
          have hGT : Good T := by rw [← HT.out]; exact HG.out.good
          obtain ⟨l, hl⟩ := Hd.out
          have hrn := run_none hGT hl H0.out hbest
          have hRdy : Ready7 wr := HRd.out.2.below (hb.mono (by rw [hsd]; exact Nat.le_refl _))
          have HDec := Lib.hid (decode_any r l wr hRdy hl H0.out)
          obtain ⟨ch, m, _, hch, hc1, hrs, hm, _⟩ := cut1_some hl H0.out
          have hcl := encC_len ch
          have hlen1 := len_enc hrs
          obtain ⟨cc, hcc⟩ : ∃ x, cut1 r = x := ⟨_, rfl⟩
          rw [hcc] at HDec hrn hc1
          have hcl2 : 1 ≤ cc.length ∧ cc.length ≤ 3 := by rw [hc1]; exact hcl
          have hcr : cc.length ≤ r.length := by rw [hc1]; omega
          have hdr : r.drop cc.length = encL m := by rw [← hcc]; exact drop_cut (by rw [hcc]; exact hc1) hrs
          have htk : r.take cc.length = cc := by rw [hc1, hrs]; exact List.take_left
          have hsl := fun W => str_suf (P := Tryd.prog) 9 Tryd.underlying9 r cc.length hcr W
          have hsp := fun W => str_pre (P := Tryd.prog) 9 Tryd.underlying9 r cc.length hcr W
          rw [htk] at hsp
          have HRun2 : Hid ((runL T s).1 = (o ++ cc) ++ (runL T (r.drop cc.length)).1 ∧ decide ((runL T s).2 = 0) = (false && decide ((runL T (r.drop cc.length)).2 = 0))) := Lib.hid (by
            have h1 := HRun.out
            rw [hrn] at h1
            refine ⟨by rw [h1.1, List.append_assoc], ?_⟩
            rw [h1.2]
            simp)
          have Hd2 : Hid (∃ l, decR (r.drop cc.length) = some l) := Lib.hid ⟨m, by rw [hdr]; exact hm⟩
          have hdl : (r.drop cc.length).length + cc.length = r.length := by rw [List.length_drop]; omega
          obtain ⟨r2, hr2⟩ : ∃ x, r.drop cc.length = x := ⟨_, rfl⟩
          rw [hr2] at hsl HRun2 Hd2 hdl
          have Hol2 : Hid ((o ++ cc).length + 1000 * r2.length ≤ 1000 * N) := Lib.hid (by have := Hol.out; rw [List.length_append]; omega)
          have hrg2 : r2.length ≤ g2 := by omega
          have hrN2 : r2.length ≤ N := by omega
          have hol : o.length ≤ 100000000 := by have := Hol.out; omega
          have hyl : cc.length ≤ 100000000 := by omega
          have hscc : (str cc).size = cc.length := rfl
          obtain ⟨nc, hnc⟩ : ∃ x, cc.length = x := ⟨_, rfl⟩
          have HNC := Lib.hid hnc
          rw [hnc] at hsl hsp hscc HDec
          clear hbest hGT hl hrn hRdy hch hc1 hrs hm hcl hlen1 hcc hcl2 hcr hdr htk hdl hr2 hyl hnc
          go_wp2_with fail
          refine HDec.out.mono ?_
          rintro e w1 ⟨⟨c1, rfl⟩, k1⟩
          have HB1 := Lib.hid (HB.out.below k1)
          have hb2 : Below (w.heap.size + 1) wd w1 := hb.trans (k1.mono hws)
          have hws1 : w.heap.size + 1 ≤ w1.heap.size := Nat.le_trans hws k1.size
          have HW := Lib.hid (writeStr_k (w.heap.size + 1) (w.heap.size + 1) o cc w1 HB1.out hol (by have := HNC.out; have := hrN; have := Hol2.out; rw [List.length_append] at this; omega) hws1)
          clear k1
          go_wp2_with fail
          refine HW.out.mono ?_
          rintro e w3 ⟨⟨_, rfl⟩, hB3, k3⟩
          have HB3 := Lib.hid hB3
          have hb3 := hb2.trans k3
          clear hB3 k3
          go_wp2
          go_roundg g2
          case measure => omega
          case rel => exact ⟨r2, o ++ cc, false, rfl, rfl, hrg2, hrN2, Hol2, Hd2, HRun2, HB3, hb3⟩

set_option maxRecDepth 100000 in
set_option maxHeartbeats 12800000 in
theorem writeB_any (t : List RuleL) (g n cap : Nat) (M : List Nat) (s : List UInt8) (L : List Nat) (w : World) (hS : Ready7 w) (hn : t.length = n) (hg : GoodDir false t) (hM : Srtd (cls false (tabOf t)) (List.range t.length) M) (hR : Row (tabOf t) w g cap M) (hs : decR s = some L) (hlen : s.length ≤ 5000) :
    Calls Tryd.prog 36 #[.agg #[.slice (some ⟨g, 0, none⟩) n cap, .func (.func 53) #[] #[]], .string (str s)] w fun e w' =>
      e = .returned (.tuple #[.string (str (runL (t.map (pick false)) s).1), .bool (decide ((runL (t.map (pick false)) s).2 = 0))]) ∧ Below w.heap.size w w' := by
  have HSh : Hid (Short false (tabOf t)) := Lib.hid (tab_short hg.short false)
  have HN := Lib.hid hn
  have HG := Lib.hid hg
  have HM := Lib.hid hM
  have HR := Lib.hid hR
  have HRdy := Lib.hid hS
  have hgl := hR.lt
  have hn1 : n ≤ 1000 := by have := hg.few; omega
  have hml : M.length = n := by rw [sorted_len hM, hn]
  have HML := Lib.hid hml
  obtain ⟨T, hT⟩ : ∃ T, t.map (pick false) = T := ⟨_, rfl⟩
  have HT := Lib.hid hT
  rw [hT]
  obtain ⟨R1, hR1⟩ : ∃ R, (runL T s).1 = R := ⟨_, rfl⟩
  obtain ⟨R2, hR2⟩ : ∃ R, decide ((runL T s).2 = 0) = R := ⟨_, rfl⟩
  rw [hR1, hR2]
  have HR12 : Hid ((runL T s).1 = R1 ∧ decide ((runL T s).2 = 0) = R2) := Lib.hid ⟨hR1, hR2⟩
  have HD : Hid (∃ l, decR s = some l) := Lib.hid ⟨_, hs⟩
  obtain ⟨N, hNN⟩ : ∃ N, s.length = N := ⟨_, rfl⟩
  have HNN := Lib.hid hNN
  rw [hNN] at hlen
  clear hR1 hR2 hs hg hNN hM hR hS hn hml hT
  go_enter Tryd.func36, Tryd.ntmps36
  obtain ⟨wd, hwd⟩ : ∃ wd, w.alloc (.cells #[.slice (some ⟨g, 0, none⟩) n cap, .func (.func 53) #[] #[]] 51) = wd := ⟨_, rfl⟩
  have hbd : Below w.heap.size w wd := by rw [← hwd]; exact (Below.refl _ _).alloc (Nat.le_refl _) _
  have hsd : wd.heap.size = w.heap.size + 1 := by rw [← hwd]; simp
  have q0 : wd.cell? ⟨w.heap.size, 0, none⟩ = some (.slice (some ⟨g, 0, none⟩) n cap) := by rw [← hwd]; simp
  have q1 : wd.cell? ⟨w.heap.size, 1, none⟩ = some (.func (.func 53) #[] #[]) := by rw [← hwd]; simp
  have HB0 : Hid (Built (w.heap.size + 1) (w.heap.size + 1) [] (wd.alloc (.cells #[.pointer none, .slice none 0 0] 65))) := Lib.hid (by have := Built.fresh wd; rw [hsd] at this; exact this)
  have hbd1 : Below (w.heap.size + 1) wd (wd.alloc (.cells #[.pointer none, .slice none 0 0] 65)) := (Below.refl _ _).alloc (by omega) _
  have HRd : Hid (Row (tabOf t) wd g cap M ∧ Ready7 wd) := Lib.hid ⟨HR.out.below hbd, HRdy.out.below hbd⟩
  go_wp2
  go_step3
  go_wp2
  go_step3
  go_wp2
  go_loopg [1, 5] N (fun g1 s1 s5 wr => ∃ (r o : List UInt8) (cv : Bool), s1 = .string (str r) ∧ s5 = .bool cv ∧ r.length ≤ g1 ∧ r.length ≤ N ∧ Hid (o.length + 1000 * r.length ≤ 1000 * N) ∧ Hid (∃ l, decR r = some l) ∧ Hid ((runL T s).1 = o ++ (runL T r).1 ∧ decide ((runL T s).2 = 0) = (cv && decide ((runL T r).2 = 0))) ∧ Hid (Built (w.heap.size + 1) (w.heap.size + 1) o wr) ∧ Below (w.heap.size + 1) wd wr)
  case atStart => exact ⟨s, [], true, rfl, rfl, Nat.le_of_eq HNN.out, Nat.le_of_eq HNN.out, Lib.hid (by simp [HNN.out]), HD, Lib.hid ⟨rfl, by simp⟩, HB0, hbd1⟩
  case round =>
    obtain ⟨r, o, cv, rfl, rfl, hrg, hrN, Hol, Hd, HRun, HB, hb⟩ := hrel
    have hsr : (str r).size = r.length := rfl
    have hws := hb.size
    rw [hsd] at hws
    by_cases h0 : r = []
    · subst h0
      have z0 : (str ([] : List UInt8)).toList = [] := str_toList []
      have z1 : ((str ([] : List UInt8)).toList != []) = false := by rw [z0]; rfl
      have HE : Hid (R1 = o ∧ R2 = cv) := Lib.hid (by
        have h1 := HRun.out
        rw [HR12.out.1, HR12.out.2, run_nil] at h1
        exact ⟨by simpa using h1.1, by simpa using h1.2⟩)
      have HSt := Lib.hid (buildStr_k (w.heap.size + 1) (w.heap.size + 1) o wr HB.out hws)
      go_wp2_with fail
      refine HSt.out.mono ?_
      rintro e w3 ⟨rfl, k3⟩
      have hbw : Below w.heap.size w w3 := hbd.trans ((hb.trans k3).mono (Nat.le_succ _))
      go_wp2
      (try rw [Exit.noGoto_ret])
      go_ret2
      rw [HE.out.1, HE.out.2]
      exact ⟨rfl, hbw⟩
    · obtain ⟨g2, rfl⟩ : ∃ g2, gk = g2 + 1 := ⟨gk - 1, by have := List.length_pos_iff.2 h0; omega⟩
      have z0 : ¬ (str r).toList = [] := by rw [str_toList]; exact h0
      have z1 := strs_full h0
      have z2 := strs_some h0
      have hr1 : 1 ≤ r.length := List.length_pos_iff.2 h0
      have H0 := Lib.hid h0
      have e0 : wr.cell? ⟨w.heap.size, 0, none⟩ = some (.slice (some ⟨g, 0, none⟩) n cap) := (hb.cell (p := ⟨w.heap.size, 0, none⟩) (Nat.lt_succ_self _)).trans q0
      have e1 : wr.cell? ⟨w.heap.size, 1, none⟩ = some (.func (.func 53) #[] #[]) := (hb.cell (p := ⟨w.heap.size, 1, none⟩) (Nat.lt_succ_self _)).trans q1
      clear h0
      go_wp2
      go_loopg [1, 20] n (fun g3 s1 s20 wi => ∃ k : Nat, k + g3 = n ∧ s1 = .string (str r) ∧ s20 = .int .i64 (k : Int) ∧ Hid (NoneTo false t M r k) ∧ Hid (Built (w.heap.size + 1) (w.heap.size + 1) o wi) ∧ Below (w.heap.size + 1) wd wi)
      case atStart => exact ⟨0, Nat.zero_add _, rfl, rfl, Lib.hid (noneTo_zero _ _ _ _), HB, hb⟩
      case round =>
        clear e0 e1 HB hb hws
        obtain ⟨k, hkg, rfl, rfl, HNo, HB, hb⟩ := hrel
        have hws := hb.size
        rw [hsd] at hws
        have e0 : wr.cell? ⟨w.heap.size, 0, none⟩ = some (.slice (some ⟨g, 0, none⟩) n cap) := (hb.cell (p := ⟨w.heap.size, 0, none⟩) (Nat.lt_succ_self _)).trans q0
        have e1 : wr.cell? ⟨w.heap.size, 1, none⟩ = some (.func (.func 53) #[] #[]) := (hb.cell (p := ⟨w.heap.size, 1, none⟩) (Nat.lt_succ_self _)).trans q1
        by_cases hlt : k < n
        · obtain ⟨g4, rfl⟩ : ∃ g4, gk = g4 + 1 := ⟨gk - 1, by omega⟩
          have t1 : decide ((k : Int) < (n : Int)) = true := by simp; omega
          have kz : (k : Int) < (n : Int) := by omega
          obtain ⟨i, hi⟩ := get_some (l := M) (i := k) (by rw [HML.out]; exact hlt)
          have hil : i < t.length := (sorted_mem HM.out).1 (List.mem_of_getElem? hi)
          have hRw : Row (tabOf t) wr g cap M := HRd.out.1.below (hb.mono (by rw [hsd]; exact Nat.le_refl _))
          have d0 := (hRw.cells hi).1
          have d1 := (hRw.cells hi).2
          obtain ⟨x, hx⟩ : ∃ x, tabOf t i = x := ⟨_, rfl⟩
          rw [hx] at d0 d1
          obtain ⟨y, hy⟩ : ∃ y, pick false x = y := ⟨_, rfl⟩
          have hxl := HG.out.len i
          rw [hx, hy] at hxl
          have HX := Lib.hid (fun W => sidesB_any x W)
          have hyv : x.2 = y.1 ∧ x.1 = y.2 := by rw [← hy]; exact ⟨rfl, rfl⟩
          rw [hyv.1, hyv.2] at HX
          rw [hyv.2] at d0
          rw [hyv.1] at d1
          have e2 : (wr.alloc (.cells #[.string (str y.2), .string (str y.1)] 41)).cell? ⟨w.heap.size, 1, none⟩ = some (.func (.func 53) #[] #[]) := Lib.cell?_alloc_some _ e1
          have HCP := Lib.hid (fun W => cutPrefix_any r y.1 W)
          obtain ⟨bb, hbb⟩ : ∃ b, begB r y.1 = b := ⟨_, rfl⟩
          rw [hbb] at HCP
          cases bb with
          | true =>
            have hbest : bestL T r = some y := by
              rw [← HT.out]
              have := noneTo_hit HSh.out HM.out HNo.out hi (by rw [hx, hy]; exact hbb)
              rw [hx, hy] at this
              exact this
            have hGT : Good T := by rw [← HT.out]; exact HG.out.good
            obtain ⟨l, hl⟩ := Hd.out
            have hrn := run_some hGT hl H0.out hbest
            obtain ⟨hym, hby⟩ := best_mem hbest
            obtain ⟨kk, hkk, _, _, _, _⟩ := side_enc (hGT y hym)
            obtain ⟨m, hm, _⟩ := enc_rest hl hkk hby
            have hy1 : 1 ≤ y.1.length := List.length_pos_iff.2 (side_ne (hGT y hym))
            have hyr := beg_len hby
            have HRun2 : Hid ((runL T s).1 = (o ++ y.2) ++ (runL T (r.drop y.1.length)).1 ∧ decide ((runL T s).2 = 0) = (cv && decide ((runL T (r.drop y.1.length)).2 = 0))) := Lib.hid (by
              have h1 := HRun.out
              rw [hrn] at h1
              exact ⟨by rw [h1.1, List.append_assoc], h1.2⟩)
            have Hd2 : Hid (∃ l, decR (r.drop y.1.length) = some l) := Lib.hid ⟨m, hm⟩
            have hdl : (r.drop y.1.length).length + y.1.length = r.length := by rw [List.length_drop]; omega
            obtain ⟨r2, hr2⟩ : ∃ x, r.drop y.1.length = x := ⟨_, rfl⟩
            rw [hr2] at HRun2 Hd2 hdl
            have HCP2 : Hid (∀ W, Calls Tryd.prog 49 #[.string (str r), .string (str y.1)] W fun e w' => e = .returned (.tuple #[.string (str r2), .bool true]) ∧ w' = W) := Lib.hid (by
              intro W
              have h1 := HCP.out W
              rw [if_pos rfl, hr2] at h1
              exact h1)
            have Hol2 : Hid ((o ++ y.2).length + 1000 * r2.length ≤ 1000 * N) := Lib.hid (by have := Hol.out; rw [List.length_append]; omega)
            have hrg2 : r2.length ≤ g2 := by omega
            have hrN2 : r2.length ≤ N := by omega
            have hol : o.length ≤ 100000000 := by have := Hol.out; omega
            have hyl : y.2.length ≤ 100000000 := by omega
            clear hi hil hRw hx hy hxl hyv hbb hbest hGT hl hrn hym hby hkk hm hy1 hyr hdl hr2 HCP
            go_wp2_with fail
            refine (HX.out _).mono ?_
            rintro e w1 ⟨rfl, hw1⟩
            have hb1 : Below wr.heap.size wr w1 := below_grow ((Below.refl _ _).alloc (Nat.le_refl _) _) hw1
            have HB1 := Lib.hid (HB.out.below hb1)
            have hb2 : Below (w.heap.size + 1) wd w1 := hb.trans (hb1.mono hws)
            have hws1 : w.heap.size + 1 ≤ w1.heap.size := Nat.le_trans hws hb1.size
            clear hw1 hb1
            go_wp2_with fail
            refine (HCP2.out _).mono ?_
            rintro e w2 ⟨rfl, rfl⟩
            have HW := Lib.hid (writeStr_k (w.heap.size + 1) (w.heap.size + 1) o y.2 w2 HB1.out hol hyl hws1)
            go_wp2_with fail
            refine HW.out.mono ?_
            rintro e w3 ⟨⟨_, rfl⟩, hB3, k3⟩
            have HB3 := Lib.hid hB3
            have hb3 := hb2.trans k3
            clear hB3 k3
            go_wp2
            go_roundg g2
            case measure => omega
            case rel => exact ⟨r2, o ++ y.2, cv, rfl, rfl, hrg2, hrN2, Hol2, Hd2, HRun2, HB3, hb3⟩
          | false =>
            have HNo2 : Hid (NoneTo false t M r (k + 1)) := Lib.hid (noneTo_next HNo.out hi (by rw [hx, hy]; exact hbb))
            have HCP2 : Hid (∀ W, Calls Tryd.prog 49 #[.string (str r), .string (str y.1)] W fun e w' => e = .returned (.tuple #[.string (str r), .bool false]) ∧ w' = W) := Lib.hid (by
              intro W
              have h1 := HCP.out W
              rw [if_neg (by simp)] at h1
              exact h1)
            clear hi hil hRw hx hy hxl hyv hbb HCP
            go_wp2_with fail
            refine (HX.out _).mono ?_
            rintro e w1 ⟨rfl, hw1⟩
            have hb1 : Below wr.heap.size wr w1 := below_grow ((Below.refl _ _).alloc (Nat.le_refl _) _) hw1
            have HB1 := Lib.hid (HB.out.below hb1)
            have hb2 : Below (w.heap.size + 1) wd w1 := hb.trans (hb1.mono hws)
            clear hw1 hb1
            go_wp2_with fail
            refine (HCP2.out _).mono ?_
            rintro e w2 ⟨rfl, rfl⟩
            go_wp2
            go_roundg g4
            case measure => omega
            case rel => exact ⟨k + 1, by omega, rfl, by go_num, HNo2, HB1, hb2⟩
        · obtain rfl : k = n := by omega
          have t1 : decide ((k : Int) < (k : Int)) = false := by simp
          have hbest : bestL T r = none := by
            rw [← HT.out]
            exact noneTo_all HM.out (by rw [HN.out]; exact HNo.out)
          have hGT : Good T := by rw [← HT.out]; exact HG.out.good
          obtain ⟨l, hl⟩ := Hd.out
          have hrn := run_none hGT hl H0.out hbest
          have hRdy : Ready7 wr := HRd.out.2.below (hb.mono (by rw [hsd]; exact Nat.le_refl _))
          have HDec := Lib.hid (decode_any r l wr hRdy hl H0.out)
          obtain ⟨ch, m, _, hch, hc1, hrs, hm, _⟩ := cut1_some hl H0.out
          have hcl := encC_len ch
          have hlen1 := len_enc hrs
          obtain ⟨cc, hcc⟩ : ∃ x, cut1 r = x := ⟨_, rfl⟩
          rw [hcc] at HDec hrn hc1
          have hcl2 : 1 ≤ cc.length ∧ cc.length ≤ 3 := by rw [hc1]; exact hcl
          have hcr : cc.length ≤ r.length := by rw [hc1]; omega
          have hdr : r.drop cc.length = encL m := by rw [← hcc]; exact drop_cut (by rw [hcc]; exact hc1) hrs
          have htk : r.take cc.length = cc := by rw [hc1, hrs]; exact List.take_left
          have hsl := fun W => str_suf (P := Tryd.prog) 9 Tryd.underlying9 r cc.length hcr W
          have hsp := fun W => str_pre (P := Tryd.prog) 9 Tryd.underlying9 r cc.length hcr W
          rw [htk] at hsp
          have HRun2 : Hid ((runL T s).1 = (o ++ cc) ++ (runL T (r.drop cc.length)).1 ∧ decide ((runL T s).2 = 0) = (false && decide ((runL T (r.drop cc.length)).2 = 0))) := Lib.hid (by
            have h1 := HRun.out
            rw [hrn] at h1
            refine ⟨by rw [h1.1, List.append_assoc], ?_⟩
            rw [h1.2]
            simp)
          have Hd2 : Hid (∃ l, decR (r.drop cc.length) = some l) := Lib.hid ⟨m, by rw [hdr]; exact hm⟩
          have hdl : (r.drop cc.length).length + cc.length = r.length := by rw [List.length_drop]; omega
          obtain ⟨r2, hr2⟩ : ∃ x, r.drop cc.length = x := ⟨_, rfl⟩
          rw [hr2] at hsl HRun2 Hd2 hdl
          have Hol2 : Hid ((o ++ cc).length + 1000 * r2.length ≤ 1000 * N) := Lib.hid (by have := Hol.out; rw [List.length_append]; omega)
          have hrg2 : r2.length ≤ g2 := by omega
          have hrN2 : r2.length ≤ N := by omega
          have hol : o.length ≤ 100000000 := by have := Hol.out; omega
          have hyl : cc.length ≤ 100000000 := by omega
          have hscc : (str cc).size = cc.length := rfl
          obtain ⟨nc, hnc⟩ : ∃ x, cc.length = x := ⟨_, rfl⟩
          have HNC := Lib.hid hnc
          rw [hnc] at hsl hsp hscc HDec
          clear hbest hGT hl hrn hRdy hch hc1 hrs hm hcl hlen1 hcc hcl2 hcr hdr htk hdl hr2 hyl hnc
          go_wp2_with fail
          refine HDec.out.mono ?_
          rintro e w1 ⟨⟨c1, rfl⟩, k1⟩
          have HB1 := Lib.hid (HB.out.below k1)
          have hb2 : Below (w.heap.size + 1) wd w1 := hb.trans (k1.mono hws)
          have hws1 : w.heap.size + 1 ≤ w1.heap.size := Nat.le_trans hws k1.size
          have HW := Lib.hid (writeStr_k (w.heap.size + 1) (w.heap.size + 1) o cc w1 HB1.out hol (by have := HNC.out; have := hrN; have := Hol2.out; rw [List.length_append] at this; omega) hws1)
          clear k1
          go_wp2_with fail
          refine HW.out.mono ?_
          rintro e w3 ⟨⟨_, rfl⟩, hB3, k3⟩
          have HB3 := Lib.hid hB3
          have hb3 := hb2.trans k3
          clear hB3 k3
          go_wp2
          go_roundg g2
          case measure => omega
          case rel => exact ⟨r2, o ++ cc, false, rfl, rfl, hrg2, hrN2, Hol2, Hd2, HRun2, HB3, hb3⟩


end Go.Proofs.YtomkipddbmnipaaDoor
