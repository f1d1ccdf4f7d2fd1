/-
  The program's composed, Compose, Is.
-/
import Derived.Test.YtpgaebdaakllaaaDoorDelStrip
namespace Go.Proofs.YtpgaebdaakllaaaDoor
open Go.RowKit

theorem pairs_lt : (pairL.all fun x => Nat.blt x.1 2048) = true := by kernel_rfl
theorem comp_any (b m : Nat) : (pairL.any fun x => Nat.beq x.2.1 b && Nat.beq x.2.2 m) = decide (compR b m ≠ 0) := by
  cases hf : pairL.find? (fun x => Nat.beq x.2.1 b && Nat.beq x.2.2 m) with
  | none =>
    rw [compR_none hf]
    have ha : (pairL.any fun x => Nat.beq x.2.1 b && Nat.beq x.2.2 m) = false := by
      rw [List.any_eq_false]
      exact List.find?_eq_none.1 hf
    rw [ha]
    rfl
  | some x =>
    have hm := List.mem_of_find?_eq_some hf
    have hz := List.all_eq_true.1 pairs_nz x hm
    rw [Bool.and_eq_true, Nat.ble_eq] at hz
    rw [compR_some hf, decide_eq_true (by omega : x.1 ≠ 0)]
    exact List.any_eq_true.2 ⟨x, hm, by have h := List.find?_some hf; exact h⟩
theorem comp_lt {b m : Nat} (h : compR b m ≠ 0) : compR b m < 2048 := by
  have hm := compR_mem h
  have hz := List.all_eq_true.1 pairs_lt _ hm
  rwa [Nat.blt_eq] at hz
theorem run_nil (c : Nat) (left : List Nat) : runF c left [] = (c, left) := by rw [runF]
/-- Where the walk stands: out, the place of the character (if there is one), what was left behind it. -/
def Walk (d : List Nat) (k : Nat) (O : List Nat) (bz : Int) (lf : Nat) : Prop :=
  (bz = -1 ∧ compF d = O ++ compF (d.drop k)) ∨
  ∃ (O0 : List Nat) (cur : Nat) (Lf : List Nat), bz = (O0.length : Int) ∧ O = O0 ++ cur :: Lf ∧ cur < 2048 ∧ (∀ x, d[k]? = some x → 0 < clM x → ∀ m ∈ Lf, clM m ≤ clM x) ∧ ((Lf = [] ∧ lf = 0) ∨ ((∃ m ∈ Lf, clM m = lf) ∧ ∀ m ∈ Lf, clM m ≤ lf)) ∧
    compF d = O0 ++ (runF cur Lf ((d.drop k).takeWhile isM)).1 :: ((runF cur Lf ((d.drop k).takeWhile isM)).2 ++ compF ((d.drop k).dropWhile isM))
theorem walk_here {d O : List Nat} {k lf c : Nat} {bz : Int} (h : Walk d k O bz lf) (hc : d[k]? = some c) (hm : isM c = false) : compF d = O ++ compF (d.drop k) := by
  rcases h with ⟨_, h⟩ | ⟨O0, cur, Lf, _, h2, _, _, _, h6⟩
  · exact h
  · have hd := dropN_at hc
    rw [hd, List.takeWhile_cons_of_neg (by rw [hm]; simp), List.dropWhile_cons_of_neg (by rw [hm]; simp), run_nil] at h6
    rw [h6, h2, hd]
    simp
theorem walk_base {d O : List Nat} {k lf c : Nat} {bz : Int} (h : Walk d k O bz lf) (hc : d[k]? = some c) (hm : isM c = false) (hs : c < 2048) : Walk d (k + 1) (O ++ [c]) (O.length : Int) 0 := by
  have h1 := walk_here h hc hm
  refine .inr ⟨O, c, [], rfl, rfl, hs, fun _ _ _ m hm' => by simp at hm', .inl ⟨rfl, rfl⟩, ?_⟩
  rw [h1, dropN_at hc, compF_base (by rw [hm]; simp)]
theorem walk_mark {d O : List Nat} {k lf c : Nat} (h : Walk d k O (-1) lf) (hc : d[k]? = some c) (hm : isM c = true) (lf' : Nat) : Walk d (k + 1) (O ++ [c]) (-1) lf' := by
  rcases h with ⟨_, h⟩ | ⟨O0, cur, Lf, h1, _⟩
  · refine .inl ⟨rfl, ?_⟩
    rw [h, dropN_at hc, compF_mark hm]
    simp
  · omega
theorem walk_end {d O : List Nat} {k lf : Nat} {bz : Int} (h : Walk d k O bz lf) (hk : d.length ≤ k) : compF d = O := by
  have hd : d.drop k = [] := List.drop_of_length_le hk
  rcases h with ⟨_, h⟩ | ⟨O0, cur, Lf, _, h2, _, _, _, h6⟩
  · rw [h, hd, compF, List.append_nil]
  · rw [hd, List.takeWhile_nil, List.dropWhile_nil, run_nil, compF] at h6
    rw [h6, h2]
    simp
/-- What the classes say of the marks that were left. -/
theorem blocked {Lf : List Nat} {lf c : Nat} (hc : 0 < clM c) (h1 : ∀ m ∈ Lf, clM m ≤ clM c) (h2 : (Lf = [] ∧ lf = 0) ∨ ((∃ m ∈ Lf, clM m = lf) ∧ ∀ m ∈ Lf, clM m ≤ lf)) : (Lf.any fun k => Nat.beq (clM k) (clM c)) = decide (lf = clM c) := by
  rcases h2 with ⟨rfl, rfl⟩ | ⟨⟨m, hm, rfl⟩, h3⟩
  · rw [decide_eq_false (by omega)]
    rfl
  · by_cases h : clM m = clM c
    · rw [decide_eq_true h]
      exact List.any_eq_true.2 ⟨m, hm, by rw [Nat.beq_eq]; exact h⟩
    · rw [decide_eq_false h, List.any_eq_false]
      intro x hx
      rw [Nat.beq_eq]
      have := h3 x hx
      have := h1 m hm
      omega
/-- The order of the classes in the decomposed form. -/
def Ord (d : List Nat) : Prop := ∀ i x y, d[i]? = some x → d[i + 1]? = some y → 0 < clM y → clM x ≤ clM y
theorem walk_join {d O0 Lf : List Nat} {k lf c cur : Nat} (hord : Ord d) (hc : d[k]? = some c) (hm : isM c = true) (hJ : compR cur c ≠ 0) (hb : (Lf.any fun k => Nat.beq (clM k) (clM c)) = false)
    (h4 : ∀ x, d[k]? = some x → 0 < clM x → ∀ m ∈ Lf, clM m ≤ clM x) (h5 : (Lf = [] ∧ lf = 0) ∨ ((∃ m ∈ Lf, clM m = lf) ∧ ∀ m ∈ Lf, clM m ≤ lf))
    (h6 : compF d = O0 ++ (runF cur Lf ((d.drop k).takeWhile isM)).1 :: ((runF cur Lf ((d.drop k).takeWhile isM)).2 ++ compF ((d.drop k).dropWhile isM))) :
    Walk d (k + 1) (O0 ++ compR cur c :: Lf) (O0.length : Int) lf := by
  refine .inr ⟨O0, compR cur c, Lf, rfl, rfl, comp_lt hJ, fun x hx hx0 m hm' => ?_, h5, ?_⟩
  · have := h4 c hc (isM_pos.1 hm) m hm'
    have := hord k c x hc hx hx0
    omega
  · rw [dropN_at hc, List.takeWhile_cons_of_pos hm, List.dropWhile_cons_of_pos hm, run_yes hJ hb] at h6
    exact h6
theorem walk_left {d O0 Lf : List Nat} {k lf c cur : Nat} (hord : Ord d) (hc : d[k]? = some c) (hm : isM c = true) (hs : cur < 2048) (hno : ¬ (compR cur c ≠ 0 ∧ (Lf.any fun k => Nat.beq (clM k) (clM c)) = false))
    (h4 : ∀ x, d[k]? = some x → 0 < clM x → ∀ m ∈ Lf, clM m ≤ clM x)
    (h6 : compF d = O0 ++ (runF cur Lf ((d.drop k).takeWhile isM)).1 :: ((runF cur Lf ((d.drop k).takeWhile isM)).2 ++ compF ((d.drop k).dropWhile isM))) (hlf : lf = clM c) :
    Walk d (k + 1) ((O0 ++ cur :: Lf) ++ [c]) (O0.length : Int) lf := by
  subst hlf
  refine .inr ⟨O0, cur, Lf ++ [c], rfl, by simp, hs, fun x hx hx0 m hm' => ?_, .inr ⟨⟨c, by simp, rfl⟩, fun m hm' => ?_⟩, ?_⟩
  · have h7 := hord k c x hc hx hx0
    rcases List.mem_append.1 hm' with hm' | hm'
    · have := h4 c hc (isM_pos.1 hm) m hm'
      omega
    · rw [List.mem_singleton.1 hm']; exact h7
  · rcases List.mem_append.1 hm' with hm' | hm'
    · exact h4 c hc (isM_pos.1 hm) m hm'
    · rw [List.mem_singleton.1 hm']; exact Nat.le_refl _
  · rw [dropN_at hc, List.takeWhile_cons_of_pos hm, List.dropWhile_cons_of_pos hm, run_no hno] at h6
    exact h6
theorem dc_ord (l : List Nat) : Ord (dcF l) := fun _ _ _ h1 h2 h3 => dc_order h1 h2 h3
theorem dc_small (s : List UInt8) : ∀ c ∈ dcF (nL s), c < 2048 := by
  intro c hc
  have hp := (plain_dcF (nL s)).1 c hc
  rcases ok_small (dcF_ok s c hc) with h | h | h | h
  · omega
  · subst h; exact absurd hp (by decide +kernel)
  · subst h; exact absurd hp (by decide +kernel)
  · exfalso
    have hw : wholeR c = [c - 65248] := by
      unfold wholeR
      rw [beq_false (by omega : c ≠ 160), beq_false (by omega : c ≠ 185), beq_false (by omega : c ≠ 178), beq_false (by omega : c ≠ 179), beq_false (by omega : c ≠ 383), beq_false (by omega : c ≠ 64257), beq_false (by omega : c ≠ 64258)]
      have h1 : inN c 65281 65374 = true := by
        unfold inN
        rw [Bool.and_eq_true, Nat.ble_eq, Nat.ble_eq]
        exact h
      rw [h1]
      rfl
    rw [hw] at hp
    injection hp with hp _
    omega

set_option maxRecDepth 100000 in
set_option maxHeartbeats 12800000 in
theorem composed_any (A : Option Addr) (n c : Nat) (d : List Nat) (w : World) (hS : Spans w) (hA : Arr nv w w.heap.size (.slice A n c) d) (hn : n ≤ 100000) (hord : Ord d) (hsm : ∀ c ∈ d, c < 2048) :
    Calls Tryd.prog 30 #[.slice A n c] w (OwnEnd w.heap.size w (compF d)) := by
  have HLn := Lib.hid hA.len
  have HS := Lib.hid hS
  have HOrd := Lib.hid hord
  have HSm := Lib.hid hsm
  have hmk : ∀ W, (Instr.makeSlice 27 (.int .i64 0) (.int .i64 (n : Int))).run Tryd.prog W = .ok (.slice (some ⟨W.heap.size, 0, none⟩) 0 n) (W.alloc (.cells (madeOf (.int .i64 0) n) 3)) := fun W => make_ints 0 n (Nat.zero_le _) (by omega) W
  have hw0 := hS.lt
  clear hS hord hsm
  go_enter Tryd.func30, Tryd.ntmps30
  go_wp2
  go_loopw [3, 4, 5, 7, 8, 9, 15] (fun v s4 s5 _ _ _ s15 wr => ∃ (k lf : Nat) (bz : Int) (O : List Nat), s15 = .int .i64 (k : Int) ∧ s5 = .int .i64 (lf : Int) ∧ s4 = .int .i64 bz ∧ k ≤ n ∧ O.length ≤ k ∧ lf ≤ 3 ∧ Hid (Walk d k O bz lf) ∧ wr.ownsRow w.heap.size 3 1 v O.length (O.map nv) ∧ Below w.heap.size w wr) (fun _ _ _ _ _ _ s15 _ => n - (intOf s15).toNat)
  case atStart =>
    refine ⟨0, 0, -1, [], rfl, rfl, rfl, Nat.zero_le _, Nat.le_refl _, by omega, Lib.hid (.inl ⟨rfl, rfl⟩), ?_, below_new (Below.refl _ _) _⟩
    have h := own_box (base := w.heap.size) (n := 0) (Box.made w 3 (madeOf (.int .i64 0) n)) (madeOf_size _ _) (Nat.zero_le n) (by unfold maxLen; omega) (Nat.le_refl _)
    exact h
  case round =>
    obtain ⟨k, lf, bz, O, rfl, rfl, rfl, hk, hOk, hlf, HW, hown, hb⟩ := hrel
    have hbs := hb.size
    by_cases hlt : k < n
    · have t1 : decide ((k : Int) < (n : Int)) = true := by simp; omega
      have kz : (k : Int) < (n : Int) := by omega
      obtain ⟨b0, o0, rfl, hB0, hc0⟩ := hA.some_ (by omega)
      obtain ⟨x, hx⟩ := get_some (l := d) (i := k) (by have := HLn.out; omega)
      have d0 := (hb.cell (p := ⟨b0, o0 + k, none⟩) hB0).trans (hc0 k x hx)
      simp only [nv] at d0
      have HM := Lib.hid (prIsMark_any x wr (HS.out.below hb))
      have hxs := HSm.out x (List.mem_of_getElem? hx)
      have hO1 : (O ++ [x]).length ≤ k + 1 := by rw [List.length_append, List.length_singleton]; omega
      cases hmk2 : isM x with
      | false =>
        rw [hmk2] at HM
        have HW2 := Lib.hid (walk_base HW.out hx hmk2 hxs)
        have hAO := Arr.of_own hown
        obtain ⟨N, hN⟩ : ∃ N, O.length = N := ⟨_, rfl⟩
        obtain ⟨A3, c3, rfl⟩ := hAO.form
        have HN := Lib.hid hN
        have hownN := hown
        rw [hN] at hownN HW2 hOk ⊢
        clear hc0 hx hmk2 hAO hN
        go_wp2_with fail
        refine HM.out.mono ?_
        rintro e w2 ⟨rfl, k2⟩
        have hown2 := own_keep_below hown k2
        rw [HN.out] at hown2
        have hbs2 : w.heap.size ≤ w2.heap.size := Nat.le_trans hbs k2.size
        have hown3 : w2.ownsRow w.heap.size 3 1 (.slice A3 N c3) O.length (O.map nv) := by rw [HN.out]; exact hown2
        go_wp2_with (at_builtin; refine append_int w2 rfl (.tmp 24) (.tmp 26) rfl w.heap.size (.slice A3 N c3) O rfl hown3 x _ rfl rfl (by have := HN.out; omega) hbs2 ?_; intro v4 w4 hown4 hb4)
        go_roundw
        case rel => exact ⟨k + 1, 0, (N : Int), O ++ [x], by go_num, rfl, rfl, by omega, hO1, by omega, HW2, hown4, (below_next hb k2).trans hb4⟩
        case measure => simp [intOf]; omega
      | true =>
        rw [hmk2] at HM
        have HCl := Lib.hid (fun W => prCls_any x W)
        have hcl0 := isM_pos.1 hmk2
        have hpc := pcl_mark hcl0
        obtain ⟨cl, hcl⟩ : ∃ cl, clM x = cl := ⟨_, rfl⟩
        have hcl3 : cl ≤ 3 := by
          rw [← hcl, ← hpc]
          unfold pcl
          repeat' split
          all_goals omega
        rw [hpc, hcl] at HCl
        by_cases hbz : bz = -1
        · subst hbz
          have HW2 := Lib.hid (walk_mark HW.out hx hmk2 cl)
          have hAO := Arr.of_own hown
          obtain ⟨N, hN⟩ : ∃ N, O.length = N := ⟨_, rfl⟩
          obtain ⟨A3, c3, rfl⟩ := hAO.form
          have HN := Lib.hid hN
          have hownN := hown
          rw [hN] at hownN hOk ⊢
          clear hc0 hx hmk2 hcl hpc hcl0 hAO hN
          go_wp2_with fail
          refine HM.out.mono ?_
          rintro e w2 ⟨rfl, k2⟩
          have hown2 := own_keep_below hown k2
          rw [HN.out] at hown2
          have hbs2 : w.heap.size ≤ w2.heap.size := Nat.le_trans hbs k2.size
          go_wp2_with fail
          refine (HCl.out _).mono ?_
          rintro e w3 ⟨rfl, rfl⟩
          have hown3 : w3.ownsRow w.heap.size 3 1 (.slice A3 N c3) O.length (O.map nv) := by rw [HN.out]; exact hown2
          go_wp2_with (at_builtin; refine append_int w3 rfl (.tmp 52) (.tmp 54) rfl w.heap.size (.slice A3 N c3) O rfl hown3 x _ rfl rfl (by have := HN.out; omega) hbs2 ?_; intro v4 w4 hown4 hb4)
          go_roundw
          case rel => exact ⟨k + 1, cl, -1, O ++ [x], by go_num, rfl, rfl, by omega, hO1, hcl3, HW2, hown4, (below_next hb k2).trans hb4⟩
          case measure => simp [intOf]; omega
        · obtain ⟨O0, cur, Lf, rfl, rfl, hcur, h4, h5, h6⟩ := HW.out.resolve_left (fun h => hbz h.1)
          have hbl := blocked hcl0 (h4 x hx hcl0) h5
          obtain ⟨bi, hbi⟩ : ∃ bi, O0.length = bi := ⟨_, rfl⟩
          have HBi := Lib.hid hbi
          obtain ⟨N, hN⟩ : ∃ N, (O0 ++ cur :: Lf).length = N := ⟨_, rfl⟩
          have HN := Lib.hid hN
          have hbN : bi < N := by rw [← hN, ← hbi, List.length_append, List.length_cons]; omega
          have hownN := hown
          rw [hN] at hownN
          obtain ⟨g, cap, cu, rfl, q1, q2, q3, q4, q5, q6⟩ := own_open hownN (by omega)
          have t2 : decide ((0 : Int) ≤ (bi : Int)) = true := by simp
          have HQ := Lib.hid (show cap ≤ maxLen from q4)
          have HQ6 := Lib.hid q6
          by_cases hlc : lf = cl
          · have t3 : ((lf : Int) != (cl : Int)) = false := by rw [hlc]; simp
            have HW2 : Hid (Walk d (k + 1) ((O0 ++ cur :: Lf) ++ [x]) (bi : Int) cl) := Lib.hid (by
              rw [← hbi]
              exact walk_left HOrd.out hx hmk2 hcur (fun h => by rw [hbl, decide_eq_true (hlc.trans hcl.symm)] at h; exact absurd h.2 (by simp)) h4 h6 hcl.symm)
            have hOk2 : ((O0 ++ cur :: Lf) ++ [x]).length ≤ k + 1 := hO1
            obtain ⟨OO, hOO⟩ : ∃ OO, O0 ++ cur :: Lf = OO := ⟨_, rfl⟩
            rw [hOO] at hown HW2 hOk2 HN hOk
            rw [hbi]
            have hown1 : wr.ownsRow w.heap.size 3 1 (.slice (some ⟨g, 0, none⟩) N cap) OO.length (OO.map nv) := hown
            clear hc0 hx hmk2 hcl hpc hcl0 h4 h5 h6 hbl hbi hN hownN q6 hOO hown hlc HQ6 hO1
            go_wp2_with fail
            refine HM.out.mono ?_
            rintro e w2 ⟨rfl, k2⟩
            have hown2 := own_keep_below hown1 k2
            have hbs2 : w.heap.size ≤ w2.heap.size := Nat.le_trans hbs k2.size
            go_wp2_with fail
            refine (HCl.out _).mono ?_
            rintro e w3 ⟨rfl, rfl⟩
            go_wp2_with fail
            refine (HCl.out _).mono ?_
            rintro e w4 ⟨rfl, rfl⟩
            go_wp2_with (at_builtin; refine append_int w4 rfl (.tmp 52) (.tmp 54) rfl w.heap.size (.slice (some ⟨g, 0, none⟩) N cap) OO rfl hown2 x _ rfl rfl (by omega) hbs2 ?_; intro v5 w5 hown5 hb5)
            go_roundw
            case rel => exact ⟨k + 1, cl, (bi : Int), OO ++ [x], by go_num, rfl, rfl, by omega, hOk2, hcl3, HW2, hown5, (below_next hb k2).trans hb5⟩
            case measure => simp [intOf]; omega
          · have t3 : ((lf : Int) != (cl : Int)) = true := by simp; omega
            have HJ := Lib.hid (fun W => prJoin_any cur x W hcur)
            rw [comp_any] at HJ
            obtain ⟨J, hJ⟩ : ∃ J, compR cur x = J := ⟨_, rfl⟩
            rw [hJ] at HJ
            have HCur : Hid (cu[bi]? = some (nv cur)) := Lib.hid (take_cell q6 (by rw [← hbi]; simp))
            by_cases hJ0 : J = 0
            · rw [decide_eq_false (by omega : ¬ J ≠ 0)] at HJ
              have HW2 : Hid (Walk d (k + 1) ((O0 ++ cur :: Lf) ++ [x]) (bi : Int) cl) := Lib.hid (by
                rw [← hbi]
                exact walk_left HOrd.out hx hmk2 hcur (fun h => h.1 (hJ.trans hJ0)) h4 h6 hcl.symm)
              have hOk2 : ((O0 ++ cur :: Lf) ++ [x]).length ≤ k + 1 := hO1
              obtain ⟨OO, hOO⟩ : ∃ OO, O0 ++ cur :: Lf = OO := ⟨_, rfl⟩
              rw [hOO] at hown HW2 hOk2 HN hOk
              rw [hbi]
              have hown1 : wr.ownsRow w.heap.size 3 1 (.slice (some ⟨g, 0, none⟩) N cap) OO.length (OO.map nv) := hown
              clear hc0 hx hmk2 hcl hpc hcl0 h4 h5 h6 hbl hbi hN hownN q6 hOO hown hlc HQ6 hO1 hJ
              have bz1 : (bi : Int) < (N : Int) := by omega
              go_wp2_with fail
              refine HM.out.mono ?_
              rintro e w2 ⟨rfl, k2⟩
              have hown2 := own_keep_below hown1 k2
              have hbs2 : w.heap.size ≤ w2.heap.size := Nat.le_trans hbs k2.size
              have d1 : w2.cell? ⟨g, bi, none⟩ = some (.int .i64 (cur : Int)) := ((q2.below k2 q2.lt).cell bi).trans HCur.out
              go_wp2_with fail
              refine (HCl.out _).mono ?_
              rintro e w3 ⟨rfl, rfl⟩
              go_wp2_with fail
              refine (HJ.out _).mono ?_
              rintro e w4 ⟨rfl, k4⟩
              have hown4 := own_keep_below hown2 k4
              have hbs4 : w.heap.size ≤ w4.heap.size := Nat.le_trans hbs2 k4.size
              go_wp2_with fail
              refine (HCl.out _).mono ?_
              rintro e w5 ⟨rfl, rfl⟩
              go_wp2_with (at_builtin; refine append_int w5 rfl (.tmp 52) (.tmp 54) rfl w.heap.size (.slice (some ⟨g, 0, none⟩) N cap) OO rfl hown4 x _ rfl rfl (by omega) hbs4 ?_; intro v6 w6 hown6 hb6)
              go_roundw
              case rel => exact ⟨k + 1, cl, (bi : Int), OO ++ [x], by go_num, rfl, rfl, by omega, hOk2, hcl3, HW2, hown6, (below_next (below_next hb k2) k4).trans hb6⟩
              case measure => simp [intOf]; omega
            · rw [decide_eq_true (by omega : J ≠ 0)] at HJ
              have HW2 : Hid (Walk d (k + 1) (O0 ++ J :: Lf) (bi : Int) lf) := Lib.hid (by
                rw [← hbi, ← hJ]
                exact walk_join HOrd.out hx hmk2 (by omega) (by rw [hbl]; exact decide_eq_false (by omega)) h4 h5 h6)
              have hOk2 : (O0 ++ J :: Lf).length ≤ k + 1 := by
                have h7 := hOk
                rw [List.length_append, List.length_cons] at h7 ⊢
                omega
              have HN2 : Hid ((O0 ++ J :: Lf).length = N) := Lib.hid (by rw [← hN]; simp)
              have HSt : Hid ((cu.setIfInBounds bi (nv J)).toList.take N = (O0 ++ J :: Lf).map nv) := Lib.hid (set_row q6 hbi.symm)
              rw [hbi]
              clear hc0 hx hmk2 hcl hpc hcl0 h4 h5 h6 hbl hbi hN hownN q6 hlc HQ6 hO1 hJ
              have bz1 : (bi : Int) < (N : Int) := by omega
              go_wp2_with fail
              refine HM.out.mono ?_
              rintro e w2 ⟨rfl, k2⟩
              have q22 := q2.below k2 q2.lt
              have d1 : w2.cell? ⟨g, bi, none⟩ = some (.int .i64 (cur : Int)) := (q22.cell bi).trans HCur.out
              go_wp2_with fail
              refine (HCl.out _).mono ?_
              rintro e w3 ⟨rfl, rfl⟩
              go_wp2_with fail
              refine (HJ.out _).mono ?_
              rintro e w4 ⟨rfl, k4⟩
              have q24 := q22.below k4 q22.lt
              have d2 : w4.cell? ⟨g, bi, none⟩ = some (.int .i64 (cur : Int)) := (q24.cell bi).trans HCur.out
              have f2 : w4.frozen? ⟨g, bi, none⟩ = false := q24.free bi
              have hb4 := below_next (below_next hb k2) k4
              go_wp2
              go_roundw
              case rel =>
                refine ⟨k + 1, lf, (bi : Int), O0 ++ J :: Lf, by go_num, rfl, rfl, by omega, hOk2, hlf, HW2, ?_, hb4.setCell (p := ⟨g, bi, none⟩) q1 _⟩
                exact own_M HN2.out q1 (q24.put bi (nv J)) q3 HQ.out (by simp [q5]) HSt.out
              case measure => simp [intOf]; omega
    · obtain rfl : k = n := by omega
      have HE : Hid (compF d = O) := Lib.hid (walk_end HW.out (by rw [HLn.out]; exact Nat.le_refl _))
      go_wp2
      go_ret
      rw [HE.out]
      exact ⟨_, rfl, hown, hb⟩

set_option maxRecDepth 20000 in
set_option maxHeartbeats 1600000 in
theorem prCompose_s (s : List UInt8) (w : World) (hS : Spans w) (hlen : s.length ≤ 5000) :
    Calls Tryd.prog 13 #[.string (str s)] w fun e w' => e = .returned (.string (str (nC s))) ∧ Below w.heap.size w w' := by
  have HD := Lib.hid (prDecom_any s w hS (by omega))
  have HS := Lib.hid hS
  have HL := Lib.hid (dcL_len s hlen)
  obtain ⟨R, hR⟩ : ∃ R, nC s = R := ⟨_, rfl⟩
  rw [hR]
  have HR : Hid (encL (compF (dcF (nL s))) = R) := Lib.hid hR
  have HOK := Lib.hid (compF_ok (dc_has s))
  have HOrd := Lib.hid (dc_ord (nL s))
  have HSm := Lib.hid (dc_small s)
  obtain ⟨l, hl⟩ : ∃ l, dcF (nL s) = l := ⟨_, rfl⟩
  rw [hl] at HD HR HOK HL HOrd HSm
  have HCL := Lib.hid (compF_len _ l (Nat.le_refl _))
  clear hR hl hS
  go_enter Tryd.func13, Tryd.ntmps13
  go_wp2_with fail
  refine HD.out.mono ?_
  rintro e w1 ⟨v, rfl, hown, hb1⟩
  have hA := Arr.of_own hown
  obtain ⟨A, c, rfl⟩ := hA.form
  have HC := Lib.hid (composed_any A _ c l w1 (HS.out.below hb1) hA (by have := HL.out; omega) HOrd.out HSm.out)
  clear hown hA
  go_wp2_with fail
  refine HC.out.mono ?_
  rintro e w2 ⟨v2, rfl, hown2, hb2⟩
  have hb3 := below_next hb1 hb2
  have HE := Lib.hid (prEncS_any _ v2 _ w2 (HS.out.below hb3) hown2 HOK.out (by have := HL.out; have := HCL.out; omega))
  clear hown2
  go_wp2_with fail
  refine HE.out.mono ?_
  rintro e w3 ⟨rfl, hb4⟩
  go_wp2
  go_ret
  rw [HR.out]
  exact ⟨rfl, below_next hb3 hb4⟩

theorem nIs_eq (s : List UInt8) : nIs s = decide (nC s = s) := by
  unfold nIs
  cases h : decR s with
  | some l => rfl
  | none =>
    have hn : nC s = [] := by
      unfold nC nL
      rw [h]
      have e1 : dcF [] = [] := rfl
      have e2 : compF [] = [] := by rw [compF]
      show encL (compF (dcF ((none : Option (List Nat)).getD []))) = []
      rw [show ((none : Option (List Nat)).getD []) = [] from rfl, e1, e2]
      rfl
    rw [hn]
    symm
    refine decide_eq_false fun e => ?_
    rw [← e] at h
    cases h

set_option maxRecDepth 20000 in
set_option maxHeartbeats 1600000 in
theorem prIs_s (s : List UInt8) (w : World) (hS : Spans w) (hlen : s.length ≤ 5000) :
    Calls Tryd.prog 15 #[.string (str s)] w fun e w' => e = .returned (.bool (nIs s)) ∧ Below w.heap.size w w' := by
  have HC := Lib.hid (prCompose_s s w hS hlen)
  obtain ⟨x, hx⟩ : ∃ x, nC s = x := ⟨_, rfl⟩
  rw [hx] at HC
  have HQ := str_beq x s
  obtain ⟨z, hz⟩ : ∃ z, decide (x = s) = z := ⟨_, rfl⟩
  have HE : Hid (nIs s = z) := Lib.hid (by rw [nIs_eq, hx, hz])
  rw [hz] at HQ
  clear hx hz hS
  go_enter Tryd.func15, Tryd.ntmps15
  go_wp2_with fail
  refine HC.out.mono ?_
  rintro e w1 ⟨rfl, k1⟩
  go_wp2
  go_ret
  exact ⟨ret_bool HE.out.symm, k1⟩

end Go.Proofs.YtpgaebdaakllaaaDoor
