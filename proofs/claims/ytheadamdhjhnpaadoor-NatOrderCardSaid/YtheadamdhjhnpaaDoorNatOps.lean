/-
  The program's Add, Sub, Mul, Divide, Gcd.
-/
import Derived.Test.YtheadamdhjhnpaaDoorQuot
import Derived.Test.YtheadamdhjhnpaaDoorCompare
import Derived.Deep.LoopGhost
namespace Go.Proofs.YtheadamdhjhnpaaDoor
open Go.RowKit

theorem arr_segV {w : World} {g off n c : Nat} {pre post : List Value} {D : List Nat} (hb : Box w g 3 (cellsV pre D post)) (hoff : pre.length = off) (hn : D.length = n) (hnc : n ≤ c) : Arr nv w (g + 1) (.slice (some ⟨g, off, none⟩) n c) D := by
  subst hoff hn
  refine .inr ⟨_, c, rfl, hnc, fun _ => by simp, fun i u hu => ?_⟩
  have hi := (List.getElem?_eq_some_iff.1 hu).1
  rw [add_plain, hb.cell]
  unfold cellsV
  rw [List.getElem?_toArray, List.getElem?_append_right (by omega), Nat.add_sub_cancel_left, List.getElem?_append_left (by simpa using hi), List.getElem?_map, hu]
  rfl
theorem cur_cells {cur : Array Value} {l : List Nat} {n : Nat} (h : cur.toList.take n = l.map nv) : cur = cellsV [] l (cur.toList.drop n) := by
  unfold cellsV
  rw [← h, List.nil_append, List.take_append_drop]
theorem own_cells {w : World} {base g N : Nat} {L : List Nat} (h : Box w g 3 (cellsOf L)) (hN : L.length = N) (hN2 : N ≤ 100000) (hg : base ≤ g) :
    w.ownsRow base 3 1 (.slice (some ⟨g, 0, none⟩) N N) L.length (L.map nv) := by
  subst hN
  have := own_box h (n := L.length) (c := L.length) (cellsOf_size L) (Nat.le_refl _) (by unfold maxLen; omega) hg
  have e : (cellsOf L).toList.take L.length = L.map nv := by
    unfold cellsOf
    exact List.take_of_length_le (by simp)
  rw [e] at this
  exact this

set_option maxHeartbeats 800000 in
theorem addMul_nil (v : Value) (f : Int) (w : World) : Calls Tryd.prog 49 #[.slice none 0 0, v, .int .i64 f] w fun e w' => e = .returned (.int .i64 0) ∧ w = w' := by
  go_enter Tryd.func49, Tryd.ntmps49
  go_wp2
  go_loop [7, 8, 11] (fun y _ j => j = .int .i64 0 ∧ y = .int .i64 0) (fun _ _ j => 0)
  case atStart => exact ⟨rfl, rfl⟩
  case round =>
    obtain ⟨rfl, rfl⟩ := hrel
    go_wp2
    go_ret
    exact ⟨rfl, rfl⟩

/-- addMultiple into a row of the call's own, where nothing is carried out. -/
theorem addOwn_any (base : Nat) (v : Value) (L : List Nat) (A' : Option Addr) (n' c' : Nat) (m : List Nat) (f : Int) (x : Nat) (w : World) (hown : w.ownsRow base 3 1 v L.length (L.map nv)) (hL : Dig L)
    (hm : Arr nv w base (.slice A' n' c') m) (hmd : Dig m) (hmn : n' ≤ L.length) (hf : -65536 ≤ f ∧ f ≤ 65536) (hlen : L.length ≤ 100000) (hx : (vl L : Int) + f * (vl m : Int) = (x : Int)) (hx2 : x < pw L.length) (hbase : base ≤ w.heap.size) :
    Calls Tryd.prog 49 #[v, .slice A' n' c', .int .i64 f] w fun e w' => ∃ u ds, e = .returned u ∧ Dig ds ∧ vl ds = x ∧ (∃ A c, v = .slice A ds.length c ∧ Arr nv w' w'.heap.size (.slice A ds.length c) ds) ∧ ds.length = L.length ∧ Below base w w' := by
  rcases hown.2 with ⟨rfl, h0⟩ | ⟨g, cap, cur, rfl, hg, hbox, hn, hcap, hsz, htake⟩
  · obtain rfl : L = [] := List.length_eq_zero_iff.1 h0
    refine (addMul_nil _ f w).mono ?_
    rintro e w' ⟨rfl, rfl⟩
    have hx0 : x = 0 := by simp [pw_zero] at hx2; exact hx2
    exact ⟨_, [], rfl, hL, hx0.symm, ⟨none, 0, rfl, Arr.nil_ _ _⟩, rfl, Below.refl _ _⟩
  · rw [Nat.mul_one] at htake
    have hbox2 : Box w g 3 (cellsV [] L (cur.toList.drop L.length)) := by
      have := hbox
      rw [cur_cells htake] at this
      exact this
    refine (addMulV_any g 0 L.length cap A' n' c' [] (cur.toList.drop L.length) L m f w hbox2 rfl rfl hL (hm.more hg) hmd hmn hf hlen (by omega) hn).mono ?_
    rintro e w' ⟨cy, ds, rfl, hE, hb2, hg2⟩
    obtain ⟨_, hv⟩ := hE.zero hx hx2
    have hl := hE.1
    refine ⟨_, ds, rfl, hE.2.1, hv, ⟨some ⟨g, 0, none⟩, cap, by rw [hl], (arr_segV hb2 rfl rfl (by omega)).more hb2.lt⟩, hl, below_only (Below.refl _ _) hg2 hg hbase⟩

set_option maxRecDepth 20000 in
set_option maxHeartbeats 800000 in
theorem clone_any (A : Option Addr) (n c : Nat) (l : List Nat) (w : World) (h : Arr nv w w.heap.size (.slice A n c) l) (hlen : n ≤ 1000000) :
    Calls Tryd.prog 53 #[.slice A n c] w fun e w' => ∃ v, e = .returned v ∧ w'.ownsRow w.heap.size 3 1 v l.length (l.map nv) ∧ Below w.heap.size w w' := by
  have hl := h.len
  have hcopy := h
  rcases h with ⟨e, rfl⟩ | ⟨ad, c2, e, _, _, _⟩
  · injection e with e1 e2 e3
    subst e1 e2 e3
    have heq : ∀ W : World, (binOp .eql 25 (.slice none 0 0) (.slice none 0 0)).run Tryd.prog W = .ok (.bool true) W := fun W => Lib.run_eql_slice_nil W 25 3 none 0 0 0 0 Tryd.underlying25
    go_enter Tryd.func53, Tryd.ntmps53
    go_wp2
    go_ret
    exact ⟨_, rfl, World.ownsRow_nil _ _ _ _, Below.refl _ _⟩
  · injection e with e1 e2 e3
    subst e1 e3
    clear e2
    have HL := Lib.hid hl
    clear hl
    have heq : ∀ W : World, (binOp .eql 25 (.slice (some ad) n c) (.slice none 0 0)).run Tryd.prog W = .ok (.bool false) W := fun W => Lib.run_eql_slice_nil W 25 3 (some ad) n c 0 0 Tryd.underlying25
    have h1 := hcopy.below ((Below.refl w.heap.size w).alloc (Nat.le_refl _) (.cells #[] 3))
    go_enter Tryd.func53, Tryd.ntmps53
    go_wp2_with (at_builtin; refine append_nats _ rfl (.tmp 5) (.tmp 6) rfl w.heap.size w.heap.size (.slice (some ⟨w.heap.size, 0, none⟩) 0 0) [] rfl (own_empty w _) l _ rfl h1 (by have := HL.out; simp; omega) (by simp) ?_; intro r1 w1 hown1 hb1)
    go_ret
    exact ⟨_, rfl, hown1, ((Below.refl _ _).alloc (Nat.le_refl _) _).trans hb1⟩

theorem quotient_num (v v' : Value) (a b : Nat) (w : World) (h : Num w v a) (h' : Num w v' b) (ha : Sn a) (hb0 : 0 < b) (hb : Sn b) :
    Calls Tryd.prog 57 #[v, v'] w fun e w' => ∃ q r, e = .returned (.tuple #[q, r]) ∧ Num w' q (a / b) ∧ Num w' r (a % b) ∧ Below w.heap.size w w' := by
  obtain ⟨A, c, rfl, h1⟩ := h
  obtain ⟨A', c', rfl, h2⟩ := h'
  have hne : (dg b).length ≠ 0 := fun e => by have := dg_eq_nil.1 (List.length_eq_zero_iff.1 e); omega
  obtain ⟨b1, o1, rfl, _, _⟩ := h2.some_ (by omega)
  exact quotient_any A _ c b1 o1 _ c' a b w h1 h2 (Nat.le_trans (dg_len_pw (k := 200) ha) (by omega)) (Nat.le_trans (dg_len_pw (k := 200) hb) (by omega)) hb0

theorem product_num (W : World) (v v' : Value) (n m : Nat) (w : World) (hk : Below W.heap.size W w) (h : Num w v n) (h' : Num w v' m) (hn : Sm n) (hm : Sm m) :
    Calls Tryd.prog 55 #[v, v'] w fun e w' => ∃ r, e = .returned r ∧ Num w' r (n * m) ∧ Below W.heap.size W w' ∧ Below w.heap.size w w' := by
  obtain ⟨A, c, rfl, h1⟩ := h
  obtain ⟨A', c', rfl, h2⟩ := h'
  refine (product_any A A' _ _ c c' (dg n) (dg m) w h1 h2 (dig_dg n) (dig_dg m) hn.len hm.len).mono fun e w' h => ?_
  rw [vl_dg, vl_dg] at h
  obtain ⟨r, e1, e2, e3⟩ := Num.of_new h
  exact ⟨r, e1, e2, below_next hk e3, e3⟩
theorem natLimited_num (v : Value) (n : Nat) (w : World) (h : Num w v n) (hn : Sm n) :
    Calls Tryd.prog 50 #[v] w fun e w' => ResEnd (limit n) e w' ∧ w = w' := by
  obtain ⟨A, c, rfl, h1⟩ := h
  have l1 := hn.len
  exact natLimited_any A _ c (dg n) w h1 (dig_dg n) (by omega) _ (by rw [vl_dg])
theorem add_fits {a b M : Nat} (ha : a < pw M) (hb : b < pw M) : a + b < pw (M + 1) := by
  have := pw_two (show M < M + 1 by omega)
  omega
theorem num_lt {w : World} {A : Option Addr} {n c a : Nat} (h : Num w (.slice A n c) a) : n = (dg a).length ∧ Arr nv w w.heap.size (.slice A n c) (dg a) ∧ a < pw n := by
  obtain ⟨A2, c2, e, h1⟩ := h
  injection e with e1 e2 e3
  subst e1 e2 e3
  exact ⟨rfl, h1, dg_length.1 (Nat.le_refl _)⟩

set_option maxRecDepth 20000 in
set_option maxHeartbeats 1600000 in
theorem natAdd_any (A A' : Option Addr) (n n' c c' : Nat) (xs ys : List Int) (w : World) (h : Arr iv w w.heap.size (.slice A n c) xs) (h' : Arr iv w w.heap.size (.slice A' n' c') ys) (hn : n ≤ 9223372036854775807) (hn' : n' ≤ 9223372036854775807) :
    Calls Tryd.prog 25 #[.slice A n c, .slice A' n' c'] w fun e w' => ResEnd (addR (numOf xs) (numOf ys)) e w' ∧ Below w.heap.size w w' := by
  cases hx : numOf xs with
  | none =>
    have hv := numOf_none hx
    have HV := Lib.hid hv
    clear hv
    go_enter Tryd.func25, Tryd.ntmps25
    go_wp2_with fail
    refine (natValid_of A n c xs false HV.out _ h hn).mono ?_
    rintro e w1 ⟨rfl, rfl⟩
    go_wp2
    go_ret2
    exact ⟨ResEnd.err 1, Below.refl _ _⟩
  | some a =>
    obtain ⟨hv, ha, _⟩ := numOf_some hx
    have hA := arg_num h hx
    cases hy : numOf ys with
    | none =>
      have HV := Lib.hid hv
      have HV2 := Lib.hid (numOf_none hy)
      clear hv
      go_enter Tryd.func25, Tryd.ntmps25
      go_wp2_with fail
      refine (natValid_of A n c xs true HV.out _ h hn).mono ?_
      rintro e w1 ⟨rfl, rfl⟩
      go_wp2_with fail
      refine (natValid_of A' n' c' ys false HV2.out _ h' hn').mono ?_
      rintro e w1 ⟨rfl, rfl⟩
      go_wp2
      go_ret2
      exact ⟨ResEnd.err 1, Below.refl _ _⟩
    | some b =>
      obtain ⟨hv2, hb, _⟩ := numOf_some hy
      have hB := arg_num h' hy
      have HX := Lib.hid hx
      have HY := Lib.hid hy
      have HV := Lib.hid hv
      have HV2 := Lib.hid hv2
      have HA := Lib.hid ha
      have HB := Lib.hid hb
      clear hv hv2 ha hb hx hy
      obtain ⟨el, hA2, la⟩ := num_lt hA
      obtain ⟨el', hB2, lb⟩ := num_lt hB
      have l1 : n ≤ 128 := by rw [el]; exact dg_len_pw HA.out
      have l2 : n' ≤ 128 := by rw [el']; exact dg_len_pw HB.out
      obtain ⟨N, hN⟩ : ∃ N, N = max n n' + 1 := ⟨_, rfl⟩
      have hz : max (n : Int) (n' : Int) + 1 = (N : Int) := by omega
      have hmk : ∀ W : World, (Instr.makeSlice 25 (.int .i64 (max (n : Int) (n' : Int) + 1)) (.int .i64 (max (n : Int) (n' : Int) + 1))).run Tryd.prog W = .ok (.slice (some ⟨W.heap.size, 0, none⟩) N N) (W.alloc (.cells (cellsOf (List.replicate N 0)) 3)) := fun W => by
        rw [hz]; exact make_nat N (by omega) W
      have g1 : n ≤ N := by omega
      have g2 : n' ≤ N := by omega
      have hsum : a + b < pw N := by
        rw [hN]
        exact add_fits (Nat.lt_of_lt_of_le la (pw_mono (by omega))) (Nat.lt_of_lt_of_le lb (pw_mono (by omega)))
      have hlen : (dg a ++ List.replicate (N - n) 0).length = N := by rw [List.length_append, List.length_replicate, ← el]; omega
      have HLen := Lib.hid hlen
      have HSum := Lib.hid hsum
      have g3 : N ≤ 129 := by omega
      clear el el' la lb hN hz hsum hlen
      go_enter Tryd.func25, Tryd.ntmps25
      go_wp2_with fail
      refine (natValid_of A n c xs true HV.out _ h hn).mono ?_
      rintro e w1 ⟨rfl, rfl⟩
      go_wp2_with fail
      refine (natValid_of A' n' c' ys true HV2.out _ h' hn').mono ?_
      rintro e w1 ⟨rfl, rfl⟩
      go_wp2_with (refine copy_nat _ rfl (.tmp 22) (.tmp 23) rfl w.heap.size N n c A (dg a) rfl rfl (Box.made _ _ _) w.heap.size (hA2.below ((Below.refl _ _).alloc (Nat.le_refl _) _)) g1 ?_; intro w1 hb1 k1)
      have hk1 : Below w.heap.size w w1 := ((Below.refl _ _).alloc (Nat.le_refl _) _).trans k1
      have hown := own_cells (base := w.heap.size) hb1 HLen.out (by omega) (Nat.le_refl _)
      have hB3 := hB2.at_ hk1
      clear hmk
      go_wp2_with fail
      refine (addOwn_any w.heap.size _ _ A' n' c' (dg b) 1 (a + b) w1 hown (dig_pad (dig_dg a) _) hB3 (dig_dg b) (by rw [HLen.out]; exact g2) (by omega) (by rw [HLen.out]; omega) (by rw [vl_pad, vl_dg, vl_dg, Int.one_mul]; omega) (by rw [HLen.out]; exact HSum.out) hk1.size).mono ?_
      rintro e w2 ⟨u, ds, rfl, hd, hv, ⟨A3, c3, e3, hA3⟩, hl3, k2⟩
      have hk2 := hk1.trans k2
      have hd3 : ds.length = N := by rw [hl3, HLen.out]
      rw [hd3] at e3 hA3
      injection e3 with e4 _ e5
      subst e4 e5
      have HD := Lib.hid hd
      have HE : Hid (limit (vl ds) = addR (some a) (some b)) := Lib.hid (by rw [hv]; rfl)
      clear hl3 hd3 hd hv
      go_wp2_with fail
      refine (natLimited_any _ N N ds w2 hA3 HD.out (by omega) _ HE.out).mono ?_
      rintro e w3 ⟨⟨A4, c4, rfl, h4⟩, rfl⟩
      go_wp2
      go_ret2
      exact ⟨⟨A4, c4, rfl, h4⟩, hk2⟩
set_option maxRecDepth 20000 in
set_option maxHeartbeats 1600000 in
theorem natSub_any (A A' : Option Addr) (n n' c c' : Nat) (xs ys : List Int) (w : World) (h : Arr iv w w.heap.size (.slice A n c) xs) (h' : Arr iv w w.heap.size (.slice A' n' c') ys) (hn : n ≤ 9223372036854775807) (hn' : n' ≤ 9223372036854775807) :
    Calls Tryd.prog 27 #[.slice A n c, .slice A' n' c'] w fun e w' => ResEnd (subR (numOf xs) (numOf ys)) e w' ∧ Below w.heap.size w w' := by
  cases hx : numOf xs with
  | none =>
    have hv := numOf_none hx
    have HV := Lib.hid hv
    clear hv
    go_enter Tryd.func27, Tryd.ntmps27
    go_wp2_with fail
    refine (natValid_of A n c xs false HV.out _ h hn).mono ?_
    rintro e w1 ⟨rfl, rfl⟩
    go_wp2
    go_ret2
    exact ⟨ResEnd.err 1, Below.refl _ _⟩
  | some a =>
    obtain ⟨hv, ha, _⟩ := numOf_some hx
    have hA := arg_num h hx
    cases hy : numOf ys with
    | none =>
      have HV := Lib.hid hv
      have HV2 := Lib.hid (numOf_none hy)
      clear hv
      go_enter Tryd.func27, Tryd.ntmps27
      go_wp2_with fail
      refine (natValid_of A n c xs true HV.out _ h hn).mono ?_
      rintro e w1 ⟨rfl, rfl⟩
      go_wp2_with fail
      refine (natValid_of A' n' c' ys false HV2.out _ h' hn').mono ?_
      rintro e w1 ⟨rfl, rfl⟩
      go_wp2
      go_ret2
      exact ⟨ResEnd.err 1, Below.refl _ _⟩
    | some b =>
      obtain ⟨hv2, hb, _⟩ := numOf_some hy
      have hB := arg_num h' hy
      have HX := Lib.hid hx
      have HY := Lib.hid hy
      have HV := Lib.hid hv
      have HV2 := Lib.hid hv2
      have HA := Lib.hid ha
      have HB := Lib.hid hb
      clear hv hv2 ha hb hx hy
      go_enter Tryd.func27, Tryd.ntmps27
      go_wp2_with fail
      refine (natValid_of A n c xs true HV.out _ h hn).mono ?_
      rintro e w1 ⟨rfl, rfl⟩
      go_wp2_with fail
      refine (natValid_of A' n' c' ys true HV2.out _ h' hn').mono ?_
      rintro e w1 ⟨rfl, rfl⟩
      go_wp2_with fail
      refine (natCompare_good A A' n n' c c' a b xs ys _ h h' HX.out HY.out).mono ?_
      rintro e w2 ⟨rfl, q, rfl⟩
      have hc := cmpN_neg a b
      by_cases hle : b ≤ a
      · rw [decide_eq_false (show ¬ a < b by omega)] at hc
        have HR : Hid (subR (some a) (some b) = .ok (a - b)) := Lib.hid (if_pos hle)
        obtain ⟨el, hA2, la⟩ := num_lt hA
        obtain ⟨el', hB2, lb⟩ := num_lt hB
        have l1 : n ≤ 128 := by rw [el]; exact dg_len_pw HA.out
        have l2 : n' ≤ n := by rw [el, el']; exact dg_len_mono hle
        have HLE := Lib.hid hle
        have HLA : Hid (a - b < pw n) := Lib.hid (by omega)
        have HEl : Hid ((dg a).length = n) := Lib.hid el.symm
        have hAd : Arr nv (w.drewN q) (w.drewN q).heap.size (.slice A n c) (dg a) := hA2
        clear el el' la lb hle
        go_wp2_with fail
        refine (clone_any A n c (dg a) _ hAd (by omega)).mono ?_
        rintro e w3 ⟨v, rfl, hown, k3⟩
        have k4 : Below w.heap.size w w3 := (below_drewN (Below.refl _ _) q).trans k3
        have hB3 := hB2.at_ k4
        go_wp2_with fail
        refine (addOwn_any w.heap.size v _ A' n' c' (dg b) (-1) (a - b) w3 hown (dig_dg a) hB3 (dig_dg b) (by rw [HEl.out]; exact l2) (by omega) (by rw [HEl.out]; omega) (by rw [vl_dg, vl_dg]; have := HLE.out; omega) (by rw [HEl.out]; exact HLA.out) k4.size).mono ?_
        rintro e w4 ⟨u, ds, rfl, hd, hv, ⟨A3, c3, rfl, hA3⟩, hl3, k5⟩
        have hk5 := k4.trans k5
        have HD := Lib.hid hd
        have HE : Hid (limit (vl ds) = .ok (a - b)) := Lib.hid (by rw [hv]; exact if_pos (by have := HA.out; omega))
        have hd3 : ds.length ≤ 128 := by rw [hl3, HEl.out]; exact l1
        clear hl3 hd hv
        go_wp2_with fail
        refine (natLimited_any A3 _ c3 ds w4 hA3 HD.out (by omega) _ HE.out).mono ?_
        rintro e w5 ⟨⟨A4, c4, rfl, h4⟩, rfl⟩
        go_wp2
        go_ret2
        rw [HR.out]
        exact ⟨⟨A4, c4, rfl, h4⟩, hk5⟩
      · rw [decide_eq_true (show a < b by omega)] at hc
        have HR : Hid (subR (some a) (some b) = .error 2) := Lib.hid (if_neg hle)
        clear hle
        go_wp2
        go_ret2
        rw [HR.out]
        exact ⟨ResEnd.err 2, below_drewN (Below.refl _ _) q⟩
set_option maxRecDepth 20000 in
set_option maxHeartbeats 1600000 in
theorem natMul_any (A A' : Option Addr) (n n' c c' : Nat) (xs ys : List Int) (w : World) (h : Arr iv w w.heap.size (.slice A n c) xs) (h' : Arr iv w w.heap.size (.slice A' n' c') ys) (hn : n ≤ 9223372036854775807) (hn' : n' ≤ 9223372036854775807) :
    Calls Tryd.prog 29 #[.slice A n c, .slice A' n' c'] w fun e w' => ResEnd (mulR (numOf xs) (numOf ys)) e w' ∧ Below w.heap.size w w' := by
  cases hx : numOf xs with
  | none =>
    have hv := numOf_none hx
    have HV := Lib.hid hv
    clear hv
    go_enter Tryd.func29, Tryd.ntmps29
    go_wp2_with fail
    refine (natValid_of A n c xs false HV.out _ h hn).mono ?_
    rintro e w1 ⟨rfl, rfl⟩
    go_wp2
    go_ret2
    exact ⟨ResEnd.err 1, Below.refl _ _⟩
  | some a =>
    obtain ⟨hv, ha, _⟩ := numOf_some hx
    have hA := arg_num h hx
    cases hy : numOf ys with
    | none =>
      have HV := Lib.hid hv
      have HV2 := Lib.hid (numOf_none hy)
      clear hv
      go_enter Tryd.func29, Tryd.ntmps29
      go_wp2_with fail
      refine (natValid_of A n c xs true HV.out _ h hn).mono ?_
      rintro e w1 ⟨rfl, rfl⟩
      go_wp2_with fail
      refine (natValid_of A' n' c' ys false HV2.out _ h' hn').mono ?_
      rintro e w1 ⟨rfl, rfl⟩
      go_wp2
      go_ret2
      exact ⟨ResEnd.err 1, Below.refl _ _⟩
    | some b =>
      obtain ⟨hv2, hb, _⟩ := numOf_some hy
      have hB := arg_num h' hy
      have HX := Lib.hid hx
      have HY := Lib.hid hy
      have HV := Lib.hid hv
      have HV2 := Lib.hid hv2
      have HA := Lib.hid ha
      have HB := Lib.hid hb
      clear hv hv2 ha hb hx hy
      go_enter Tryd.func29, Tryd.ntmps29
      go_wp2_with fail
      refine (natValid_of A n c xs true HV.out _ h hn).mono ?_
      rintro e w1 ⟨rfl, rfl⟩
      go_wp2_with fail
      refine (natValid_of A' n' c' ys true HV2.out _ h' hn').mono ?_
      rintro e w1 ⟨rfl, rfl⟩
      go_wp2_with fail
      refine (product_num w _ _ a b _ (Below.refl _ _) hA hB (sn_of HA.out).sm (sn_of HB.out).sm).mono ?_
      rintro e w2 ⟨r2, rfl, h2, k2, _⟩
      go_wp2_with fail
      refine (natLimited_num r2 _ _ h2 (sn_mul HA.out HB.out)).mono ?_
      rintro e w3 ⟨⟨A3, c3, rfl, h3⟩, rfl⟩
      go_wp2
      go_ret2
      exact ⟨⟨A3, c3, rfl, h3⟩, k2⟩

end Go.Proofs.YtheadamdhjhnpaaDoor
