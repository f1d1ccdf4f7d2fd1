/-
  The program's withDecimal and Parse.
-/
import Derived.Test.YtheadamdhjhnpaaDoorNotation
namespace Go.Proofs.YtheadamdhjhnpaaDoor
open Go.RowKit

theorem own_again {w' : World} {base g n cap : Nat} {ds : List Nat} {post : List Value} (hb : Box w' g 3 (cellsV [] ds post)) (hsz : (cellsV [] ds post).size = cap) (hn : ds.length = n) (hn2 : n ≤ cap) (hc : cap ≤ maxLen) (hg : base ≤ g) :
    w'.ownsRow base 3 1 (.slice (some ⟨g, 0, none⟩) n cap) ds.length (ds.map nv) := by
  subst hn
  have := own_box hb (n := ds.length) (c := cap) hsz hn2 hc hg
  have e : (cellsV [] ds post).toList.take ds.length = ds.map nv := by
    rw [cellsV_nil]
    simp
  rw [e] at this
  exact this
theorem cellsV_size (ds : List Nat) (post : List Value) : (cellsV [] ds post).size = ds.length + post.length := by rw [cellsV_nil]; simp
theorem dig_last {ds : List Nat} (h : Dig ds) {y : Nat} (hy : y ≤ 9) : Dig (ds ++ [y]) := h.append (by intro d hd; simp at hd; omega)
theorem ten_zero {ds : List Nat} {y : Nat} (hy : y = 0) : vl (ds ++ [y]) = vl ds := by rw [vl_app, hy]; simp [vl]

set_option maxHeartbeats 1600000 in
theorem withDec_any (base : Nat) (v : Value) (L : List Nat) (x : Nat) (w : World) (hown : w.ownsRow base 3 1 v L.length (L.map nv)) (hL : Dig L) (hx : x ≤ 9) (hlen : L.length ≤ 1000) (hbase : base ≤ w.heap.size) :
    Calls Tryd.prog 65 #[v, .int .i64 (x : Int)] w fun e w' => ∃ v' L', e = .returned v' ∧ w'.ownsRow base 3 1 v' L'.length (L'.map nv) ∧ Dig L' ∧ vl L' = 10 * vl L + x ∧ L'.length ≤ L.length + 1 ∧ Below base w w' := by
  rcases hown.2 with ⟨rfl, h0⟩ | ⟨g, cap, cur, rfl, hg, hbox, hn, hcap, hsz, htake⟩
  · obtain rfl : L = [] := List.length_eq_zero_iff.1 h0
    by_cases hx0 : x = 0
    · have t1 : decide (0 < x) = false := by simp; omega
      have HV : Hid (vl ([] : List Nat) = 10 * vl ([] : List Nat) + x) := Lib.hid (by rw [hx0]; rfl)
      clear hx0 hown h0
      go_enter Tryd.func65, Tryd.ntmps65
      go_wp2
      go_loop [5, 6, 10] (fun y _ j => j = .int .i64 0 ∧ y = .int .i64 (x : Int)) (fun _ _ j => 0)
      case atStart => exact ⟨rfl, rfl⟩
      case round =>
        obtain ⟨rfl, rfl⟩ := hrel
        go_wp2
        go_ret
        exact ⟨_, rfl, [], World.ownsRow_nil _ _ _ _, hL, HV.out, by simp, Below.refl _ _⟩
    · have t1 : decide (0 < x) = true := by simp; omega
      have HV : Hid (vl ([x] : List Nat) = 10 * vl ([] : List Nat) + x) := Lib.hid (by simp [vl])
      clear hx0 hown h0
      go_enter Tryd.func65, Tryd.ntmps65
      go_wp2
      go_loop [5, 6, 10] (fun y _ j => j = .int .i64 0 ∧ y = .int .i64 (x : Int)) (fun _ _ j => 0)
      case atStart => exact ⟨rfl, rfl⟩
      case round =>
        obtain ⟨rfl, rfl⟩ := hrel
        go_wp2_with (at_builtin; refine append_nat w rfl (.tmp 30) (.tmp 32) rfl base (.slice none 0 0) [] rfl (World.ownsRow_nil _ _ _ _) x _ rfl rfl (by simp) hbase ?_; intro r1 w1 hown1 hb1)
        go_ret
        exact ⟨_, rfl, [x], hown1, dig_last hL hx, HV.out, by simp, hb1⟩
  · rw [Nat.mul_one] at htake hsz
    obtain ⟨post, hpost⟩ : ∃ post, post = cur.toList.drop L.length := ⟨_, rfl⟩
    have hbox2 : Box w g 3 (cellsV [] L post) := by
      have := hbox
      rw [cur_cells htake, ← hpost] at this
      exact this
    have hsz2 : L.length + post.length = cap := by
      have := congrArg Array.size (cur_cells htake)
      rw [cellsV_size, ← hpost] at this
      omega
    obtain ⟨n, hnL⟩ : ∃ n, n = L.length := ⟨_, rfl⟩
    have HN : Hid (L.length = n) := Lib.hid hnL.symm
    have HSZ := Lib.hid hsz2
    have hnc : n ≤ cap := by omega
    have hn1 : n ≤ 1000 := by omega
    rw [← hnL]
    have HC := Lib.hid hcap
    clear hown hbox htake hsz hpost hsz2 hn hlen hnL hcap
    go_enter Tryd.func65, Tryd.ntmps65
    go_wp2
    go_loopw [5, 6, 10] (fun cy _ i wr => ∃ (k y : Nat) (ds : List Nat), k ≤ n ∧ i = .int .i64 (k : Int) ∧ cy = .int .i64 (y : Int) ∧ Ten L x k y ds ∧ Box wr g 3 (cellsV [] (ds ++ L.drop k) post) ∧ w.grownBy wr (some g)) (fun _ _ i _ => n - (intOf i).toNat)
    case atStart => exact ⟨0, x, [], by omega, rfl, rfl, Ten.start L hx, hbox2, grown_refl _ _⟩
    case round =>
      obtain ⟨k, y, ds, hk, rfl, rfl, hst, hb, hgr⟩ := hrel
      have hds := hst.1
      have hy := hst.2.2.1
      by_cases hlt : k < n
      · obtain ⟨d, hdt⟩ : ∃ d, L[k]? = some d := ⟨_, List.getElem?_eq_getElem (by have := HN.out; omega)⟩
        have hdl := hL.at_ hdt
        have hat := seg_at (pre := []) (post := post) (off := 0) rfl hds hdt
        rw [Nat.zero_add] at hat
        have d0 := hb.cell k
        rw [hat] at d0
        simp only [nv] at d0
        have hfz := hb.free k
        have i0 : (k : Int) < (n : Int) := by omega
        have HS := Lib.hid (hst.step hL hdt)
        have hset := seg_set (pre := []) (post := post) (off := 0) rfl hds hdt ((y + 10 * d) % 65536)
        rw [Nat.zero_add] at hset
        have HSet := Lib.hid hset
        clear hat hdt hset
        go_wp2
        go_roundw
        case rel =>
          have hv : Value.int .i64 (((y : Int) + 10 * (d : Int)) % 65536) = nv ((y + 10 * d) % 65536) := value_int (by omega)
          rw [hv]
          refine ⟨k + 1, (y + 10 * d) / 65536, _, by omega, by go_num, by go_num, HS.out, ?_, grown_trans hgr grown_set⟩
          rw [← HSet.out]
          exact hb.put _ _
        case measure => simp [intOf]; omega
      · obtain rfl : k = n := by omega
        have hv := hst.done (by have := HN.out; omega)
        have hb2 : Box wr g 3 (cellsV [] ds post) := by
          have := hb
          rw [List.drop_of_length_le (by have := HN.out; omega), List.append_nil] at this
          exact this
        have hown2 := own_again (base := base) hb2 (by rw [cellsV_size, hds]; have := HSZ.out; have := HN.out; omega) hds hnc HC.out hg
        have hdd := hst.2.1
        have hkb : Below base w wr := below_only (Below.refl _ _) hgr hg hbase
        have hbs : base ≤ wr.heap.size := Nat.le_trans hbase hgr.size
        have hdl : ds.length ≤ 1000 := by omega
        have HDL : Hid (ds.length ≤ L.length) := Lib.hid (by have := HN.out; omega)
        by_cases hy0 : y = 0
        · have t1 : decide (0 < y) = false := by simp; omega
          have HV : Hid (vl ds = 10 * vl L + x) := Lib.hid (by rw [← ten_zero (ds := ds) hy0]; exact hv)
          clear hst hb hv hds hy0
          go_wp2
          go_ret
          exact ⟨_, ds, rfl, hown2, hdd, HV.out, by have := HDL.out; have := HN.out; omega, hkb⟩
        · have t1 : decide (0 < y) = true := by simp; omega
          have HV := Lib.hid hv
          clear hst hb hv hds hy0
          go_wp2_with (at_builtin; refine append_nat wr rfl (.tmp 30) (.tmp 32) rfl base (.slice (some ⟨g, 0, none⟩) k cap) ds rfl hown2 y _ rfl rfl (by omega) hbs ?_; intro r1 w1 hown1 hb1)
          go_ret
          exact ⟨_, ds ++ [y], rfl, hown1, dig_last hdd hy, HV.out, by rw [List.length_append, List.length_singleton]; have := HDL.out; have := HN.out; omega, hkb.trans hb1⟩

theorem parse_error {s : List UInt8} (h : noteB s = false) : parseR s = .error 7 := note_parse h
theorem parse_limit {s : List UInt8} (h : noteB s = true) : limit (decV s) = parseR s := (note_parse h).symm
theorem note_all {s : List UInt8} (h : noteB s = true) : s.all isDec = true := by
  unfold noteB at h
  rw [Bool.and_eq_true] at h
  exact h.2
theorem note_len {s : List UInt8} (h : noteB s = true) : s.length ≤ 700 := by
  unfold noteB formB at h
  simp at h
  exact h.1.1.2

set_option maxHeartbeats 1600000 in
theorem natParse_any (s : List UInt8) (w : World) (hlen : s.length ≤ 1000000000000) :
    Calls Tryd.prog 42 #[.string (str s)] w fun e w' => ResEnd (parseR s) e w' ∧ Below w.heap.size w w' := by
  have hsz : (str s).size = s.length := rfl
  have hnt := notation_any s w hlen
  cases hb : noteB s with
  | false =>
    rw [hb] at hnt
    have HE := Lib.hid (parse_error hb)
    have HNT := Lib.hid hnt
    clear hnt hb
    go_enter Tryd.func42, Tryd.ntmps42
    go_wp2_with fail
    refine HNT.out.mono ?_
    rintro e w1 ⟨rfl, k1⟩
    go_wp2
    go_ret2
    rw [HE.out]
    exact ⟨ResEnd.err 7, k1⟩
  | true =>
    rw [hb] at hnt
    have HE := Lib.hid (parse_limit hb)
    have HNT := Lib.hid hnt
    have HAll := Lib.hid (note_all hb)
    have hl7 := note_len hb
    clear hnt hb
    go_enter Tryd.func42, Tryd.ntmps42
    go_wp2_with fail
    refine HNT.out.mono ?_
    rintro e w1 ⟨rfl, k1⟩
    go_wp2
    go_loopw [4, 5, 11] (fun v _ i wr => ∃ (k : Nat) (L : List Nat), k ≤ s.length ∧ i = .int .i64 (k : Int) ∧ wr.ownsRow w.heap.size 3 1 v L.length (L.map nv) ∧ Dig L ∧ Hid (vl L = decV (s.take k)) ∧ L.length ≤ k ∧ Below w.heap.size w wr) (fun _ _ i _ => s.length - (intOf i).toNat)
    case atStart => exact ⟨0, [], by omega, rfl, World.ownsRow_nil _ _ _ _, by intro d hd; simp at hd, Lib.hid rfl, by simp, k1⟩
    case round =>
      obtain ⟨k, L, hk, rfl, hown, hL, HVL, hLk, hbel⟩ := hrel
      have hbs := hbel.size
      by_cases hlt : k < s.length
      · have hkz : k < (str s).size := hlt
        have hat := str_at s k hkz
        obtain ⟨c0, hc0⟩ : ∃ c, c = (str s)[k]'hkz := ⟨_, rfl⟩
        rw [← hc0] at hat
        have hcd : isDec c0 = true := List.all_eq_true.1 HAll.out c0 (List.mem_of_getElem? hat)
        have hcd2 := hcd
        simp [isDec] at hcd2
        obtain ⟨D, hD⟩ : ∃ D, D = c0.toNat - 48 := ⟨_, rfl⟩
        have e1 : IntKind.u8.wrap ((((str s)[k]'hkz).toNat : Int) - 48) = (D : Int) := by
          rw [← hc0, wraps_u8 _ (by omega) (by omega)]; omega
        have hD9 : D ≤ 9 := by omega
        have e2 : IntKind.i64.wrap (D : Int) = (D : Int) := wraps_i64 _ (by omega) (by omega)
        have HV2 : Hid (10 * vl L + D = decV (s.take (k + 1))) := Lib.hid (by rw [take_next hat, decV_snoc, HVL.out, hD])
        have i0 : (k : Int) < (s.length : Int) := by omega
        clear hat hc0 hcd hcd2 hD
        go_wp2_with fail
        refine (withDec_any w.heap.size _ L D wr hown hL hD9 (by omega) hbs).mono ?_
        rintro e w2 ⟨v2, L2, rfl, hown2, hL2, hv2, hl2, k2⟩
        have HV3 : Hid (vl L2 = decV (s.take (k + 1))) := Lib.hid (by rw [hv2]; exact HV2.out)
        clear hv2
        go_wp2
        go_roundw
        case rel => exact ⟨k + 1, L2, by omega, by go_num, hown2, hL2, HV3, by omega, hbel.trans k2⟩
        case measure => simp [intOf]; omega
      · obtain rfl : k = s.length := by omega
        have hA := Arr.of_own hown
        obtain ⟨A1, c1, rfl⟩ := hA.form
        have HR : Hid (limit (vl L) = parseR s) := Lib.hid (by
          have := HVL.out
          rw [List.take_of_length_le (Nat.le_refl _)] at this
          rw [this]; exact HE.out)
        clear hown
        go_wp2_with fail
        refine (natLimited_any A1 _ c1 L wr hA hL (by omega) _ HR.out).mono ?_
        rintro e w3 ⟨⟨A3, c3, rfl, h3⟩, rfl⟩
        go_wp2
        go_ret2
        exact ⟨⟨A3, c3, rfl, h3⟩, hbel⟩

end Go.Proofs.YtheadamdhjhnpaaDoor
