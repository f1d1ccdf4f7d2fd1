/-
  The program's Show.
-/
import Derived.Test.YtheadamdhjhnpaaDoorGroup
import Derived.Test.YtheadamdhjhnpaaDoorRev
import Derived.Test.YtheadamdhjhnpaaDoorStrip
namespace Go.Proofs.YtheadamdhjhnpaaDoor
open Go.RowKit

theorem info_u8 : (Tryd.prog.info? 5).map (fun i => (i.zero, i.size, i.bytes)) = some (some (.int .u8 0), 1, 1) := by kernel_rfl
theorem append_byte {ops : Array Oper} {rest : List Oper} {o : Oper} {a : Act} {Q : Exit → Act → World → Prop} (w : World) (hgd : o.guard = none) (s x : Operand)
    (ho : o.op = .call { callee := .builtin .append, args := #[s, x], argTypes := #[76, 76] })
    (base : Nat) (v : Value) (xs : List UInt8) (hs : a.eval s = v) (hown : w.ownsRow base 5 1 v xs.length (xs.map bv)) (y : UInt8) (u : Value) (hu : u = bv y)
    (hx : a.eval x = .slice (some ⟨w.heap.size, 0, none⟩) 1 1) (hlen : xs.length ≤ 1000000000000 - 1) (hbase : base ≤ w.heap.size)
    (h : ∀ v' w', w'.ownsRow base 5 1 v' (xs ++ [y]).length ((xs ++ [y]).map bv) → Below base w w' → wpList Tryd.prog ops Q rest (a.put o.dst v') w') : wpList Tryd.prog ops Q (o :: rest) a (w.alloc (.cells #[u] 5)) :=
  append_one 76 5 (.int .u8 0) 1 Tryd.underlying76 info_u8 rfl (by decide) one_bv w hgd s x ho base v xs hs hown y u hu hx hlen hbase h

theorem own_apart {w w' : World} {base g : Nat} {e : TypeId} {size n : Nat} {v : Value} {xs : List Value} (h : w.ownsRow base e size v n xs) (hg : w.grownBy w' (some g)) (hlt : g < base) : w'.ownsRow base e size v n xs := by
  obtain ⟨h1, h2 | ⟨gd, cap, cur, hv, hge, hb, hrest⟩⟩ := h
  · exact ⟨h1, .inl h2⟩
  · exact ⟨h1, .inr ⟨gd, cap, cur, hv, hge, (hg.block gd (Array.getElem?_eq_some_iff.1 hb).1 (by intro e2; injection e2 with e2; omega)).trans hb, hrest⟩⟩
theorem own_keepB {w w' : World} {base : Nat} {e : TypeId} {size n : Nat} {v : Value} {xs : List Value} (h : w.ownsRow base e size v n xs) (hb : Below w.heap.size w w') : w'.ownsRow base e size v n xs := own_keep_below h hb
theorem cellsV_trim (L : List Nat) (post : List Value) : cellsV [] L post = cellsV [] (tr L) ((L.drop (tr L).length).map nv ++ post) := by
  rw [cellsV_nil, cellsV_nil, ← List.append_assoc, ← List.map_append]
  congr 3
  conv => lhs; rw [← List.take_append_drop (tr L).length L, tr_take]
theorem dec_of {n : Nat} : isDec (UInt8.ofNat (48 + n % 10)) = true := by
  unfold isDec
  rw [UInt8.toNat_ofNat']
  simp; omega
theorem all_snoc {T : List UInt8} {c : UInt8} (h : T.all isDec = true) (hc : isDec c = true) : (T ++ [c]).all isDec = true := by rw [List.all_append, h]; simpa using hc
theorem lb_group {m : Nat} (h : m ≠ 0) : lb (m / 1000000000) + 1 ≤ lb m := by
  rw [lb_pos h]
  have := lb_mono (show m / 1000000000 ≤ m / 2 by omega)
  omega
theorem byte_val {G : Nat} {c : UInt8} (hc : c = UInt8.ofNat (48 + G % 10)) : c.toNat = 48 + G % 10 := by
  rw [hc, UInt8.toNat_ofNat']
  omega

/-- A row of bytes of the call's own, known as a block. -/
theorem own_box_of {w : World} {base : Nat} {v : Value} {T : List UInt8} (h : w.ownsRow base 5 1 v T.length (T.map bv)) (h0 : T ≠ []) :
    ∃ gd cap cur, v = .slice (some ⟨gd, 0, none⟩) T.length cap ∧ base ≤ gd ∧ Box w gd 5 cur ∧ T.length ≤ cap ∧ T.length ≤ cur.size ∧ ∀ x, x < T.length → cur[x]? = (T[x]?).map bv := by
  rcases h.2 with ⟨_, hz⟩ | ⟨gd, cap, cur, hv, hg, hb, hn, hc, hsz, htake⟩
  · exact absurd (List.length_eq_zero_iff.1 hz) h0
  · rw [Nat.mul_one] at htake
    refine ⟨gd, cap, cur, hv, hg, hb, hn, ?_, fun x hx => ?_⟩
    · have := congrArg List.length htake
      simp at this
      omega
    · have h2 : (cur.toList.take T.length)[x]? = (T.map bv)[x]? := by rw [htake]
      rw [List.getElem?_take, if_pos hx, Array.getElem?_toList, List.getElem?_map] at h2
      exact h2

set_option maxRecDepth 20000 in
set_option maxHeartbeats 1600000 in
theorem natShow_any (A : Option Addr) (n c : Nat) (xs : List Int) (w : World) (h : Arr iv w w.heap.size (.slice A n c) xs) (hn : n ≤ 9223372036854775807) :
    Calls Tryd.prog 40 #[.slice A n c] w fun e w' => ShowEnd (numOf xs) e ∧ Below w.heap.size w w' := by
  cases hx : numOf xs with
  | none =>
    have HV := Lib.hid (numOf_none hx)
    go_enter Tryd.func40, Tryd.ntmps40
    go_wp2_with fail
    refine (natValid_of A n c xs false HV.out _ h hn).mono ?_
    rintro e w1 ⟨rfl, rfl⟩
    go_wp2
    go_ret2
    exact ⟨rfl, Below.refl _ _⟩
  | some a =>
    obtain ⟨hv, ha, hxs⟩ := numOf_some hx
    have hA := arg_num h hx
    obtain ⟨el, hA2, _⟩ := num_lt hA
    have HV := Lib.hid hv
    have hl128 : n ≤ 128 := by rw [el]; exact dg_len_pw ha
    clear hv hx hxs
    by_cases h0 : a = 0
    · have t0 : ((n : Int) == 0) = true := by rw [el, h0, dg_zero]; rfl
      subst h0
      clear el
      go_enter Tryd.func40, Tryd.ntmps40
      go_wp2_with fail
      refine (natValid_of A n c xs true HV.out _ h hn).mono ?_
      rintro e w1 ⟨rfl, rfl⟩
      go_wp2
      go_ret2
      exact ⟨rfl, Below.refl _ _⟩
    · have hne : (dg a).length ≠ 0 := fun e => h0 (dg_eq_nil.1 (List.length_eq_zero_iff.1 e))
      have t0 : ((n : Int) == 0) = false := beq_false_of_ne (by omega)
      have HE : Hid (showS (some a) = decS a) := Lib.hid (if_neg h0)
      have HS := Lib.hid (sn_of ha)
      have HLB : Hid (lb a ≤ 2048) := Lib.hid (by have := lb_pw ha; omega)
      have HNE := Lib.hid hne
      have HA0 := Lib.hid h0
      have HEl : Hid ((dg a).length = n) := Lib.hid el.symm
      clear el h0 ha hne
      go_enter Tryd.func40, Tryd.ntmps40
      go_wp2_with fail
      refine (natValid_of A n c xs true HV.out _ h hn).mono ?_
      rintro e w1 ⟨rfl, rfl⟩
      go_wp2_with fail
      refine (clone_any A n c (dg a) _ hA2 (by omega)).mono ?_
      rintro e w1 ⟨v, rfl, hown, k1⟩
      rcases hown.2 with ⟨_, hz⟩ | ⟨g, cap, cur, rfl, hg, hbox, hncap, hcap, hsz, htake⟩
      · exact absurd hz HNE.out
      rw [Nat.mul_one] at htake
      have hbox2 : Box w1 g 3 (cellsV [] (dg a) (cur.toList.drop (dg a).length)) := by
        have := hbox
        rw [cur_cells htake] at this
        exact this
      have hgB := hbox2.lt
      obtain ⟨B, hB⟩ : ∃ B, B = w1.heap.size := ⟨_, rfl⟩
      have hBw : w.heap.size ≤ B := by rw [hB]; exact k1.size
      have hgB2 : g < B := by rw [hB]; exact hgB
      have hB1 : B ≤ w1.heap.size := by omega
      clear hown hbox htake hB hgB hsz
      go_wp2
      go_loopg [4, 5, 6, 22] a (fun m dv rv _ _ wr => ∃ (T : List UInt8) (post : List Value), rv = .slice (some ⟨g, 0, none⟩) (dg m).length cap ∧ Box wr g 3 (cellsV [] (dg m) post) ∧ wr.ownsRow B 5 1 dv T.length (T.map bv) ∧
        Hid (m * 10 ^ T.reverse.length + decV T.reverse = a) ∧ Hid (T.all isDec = true) ∧ Hid (T.length + 9 * lb m ≤ 9 * lb a) ∧ Below w.heap.size w wr ∧ B ≤ wr.heap.size ∧ Hid (Sn m) ∧ (dg m).length ≤ cap)
      case atStart => exact ⟨[], _, rfl, hbox2, World.ownsRow_nil _ _ _ _, Lib.hid (by simp [decV_nil]), Lib.hid rfl, Lib.hid (by simp), k1, hB1, HS, hncap⟩
      case round =>
        obtain ⟨T, post, rfl, hb, hT, HT, HD, HL, hbel, hBs, HM, hcm⟩ := hrel
        by_cases hm0 : gk = 0
        · subst hm0
          have t1 : decide (0 < (dg 0).length) = false := by rw [dg_zero]; rfl
          have hTa : decV T.reverse = a := by have := HT.out; rwa [Nat.zero_mul, Nat.zero_add] at this
          have hTne : T ≠ [] := fun e => HA0.out (by rw [← hTa, e]; rfl)
          have hTl : T.length ≤ 100000 := by have := HL.out; have := HLB.out; omega
          obtain ⟨gd, cd, cur2, rfl, hgd, hbd, hc1, hc2, hcur⟩ := own_box_of hT hTne
          have HCur := Lib.hid hcur
          have HR : Hid (str (T.reverse.dropWhile (fun c => c == 48)) = str (decS a)) := Lib.hid (by rw [strip_dec _ (by rw [List.all_reverse]; exact HD.out), hTa])
          clear hcur hT hTa hTne
          go_wp2_with fail
          refine (reverse_any gd T.length cd T cur2 wr hbd rfl HCur.out hc2 hTl).mono ?_
          rintro e w3 ⟨rfl, cur3, hb3, hc3, hcur3, hg3⟩
          have hk3 : Below w.heap.size w w3 := below_only hbel hg3 (by omega) (Nat.le_refl _)
          have hArr : Arr bv w3 (gd + 1) (.slice (some ⟨gd, 0, none⟩) T.length cd) T.reverse := Arr.of_box hb3 (by rw [List.length_reverse]) hc1 (fun i u hu => by
            rw [hcur3 i (by have := (List.getElem?_eq_some_iff.1 hu).1; rw [List.length_reverse] at this; exact this), hu]; rfl)
          have hcv := conv_bytes hArr 76 5 9 Tryd.underlying76 Tryd.underlying5 Tryd.underlying9
          clear hcur3
          go_wp2_with fail
          refine (trim_zero T.reverse _).mono ?_
          rintro e w4 ⟨rfl, k4⟩
          rw [HR.out]
          go_wp2
          go_ret2
          refine ⟨?_, below_next hk3 k4⟩
          unfold ShowEnd
          rw [HE.out]
          rfl
        · obtain ⟨L, hL⟩ : ∃ L, L = (dg gk).length := ⟨_, rfl⟩
          have hL0 : L ≠ 0 := by rw [hL]; exact fun e => hm0 (dg_eq_nil.1 (List.length_eq_zero_iff.1 e))
          have hL200 : L ≤ 1000 := by rw [hL]; exact HM.out.sm.len
          have t1 : decide (0 < L) = true := by simp; omega
          have HLL : Hid ((dg gk).length = L) := Lib.hid hL.symm
          have HG1 := Lib.hid (lb_group hm0)
          have HLT : Hid (gk / 1000000000 < gk) := Lib.hid (by omega)
          rw [← hL]
          rw [← hL] at hcm
          clear hL hm0
          go_wp2_with fail
          refine (takeGroup_any g L cap (dg gk) post wr hb HLL.out (dig_dg gk) hL200).mono ?_
          rw [vl_dg]
          rintro e w3 ⟨rfl, hb3, hg3⟩
          have hT3 := own_apart hT hg3 hgB2
          have hk3 : Below w.heap.size w w3 := below_only hbel hg3 (by omega) (Nat.le_refl _)
          have hBs3 : B ≤ w3.heap.size := Nat.le_trans hBs hg3.size
          obtain ⟨q, hq⟩ : ∃ q, q = gk / 1000000000 := ⟨_, rfl⟩
          obtain ⟨G0, hG0⟩ : ∃ G, G = gk % 1000000000 := ⟨_, rfl⟩
          have HI0 : Hid ((q * 10 ^ 9 + G0) * 10 ^ T.reverse.length + decV T.reverse = a) := Lib.hid (by
            rw [← HT.out]
            congr 2
            rw [hq, hG0]; omega)
          have hG09 : G0 < 1000000000 := by rw [hG0]; omega
          rw [← hG0]
          have HQ := Lib.hid hq
          obtain ⟨T0, hT0⟩ : ∃ t, t = T.length := ⟨_, rfl⟩
          have HT0 := Lib.hid hT0
          clear hq hG0 hT hb
          clear hT0
          go_wp2
          go_loopw [4, 6, 22] (fun dv gv i wr => ∃ (j k G : Nat) (T : List UInt8), k + j = 9 ∧ i = .int .i64 (j : Int) ∧ gv = .int .i64 (G : Int) ∧ wr.ownsRow B 5 1 dv T.length (T.map bv) ∧
            Hid ((q * 10 ^ k + G) * 10 ^ T.reverse.length + decV T.reverse = a) ∧ Hid (G < 10 ^ k) ∧ G < 1000000000 ∧ Hid (T.all isDec = true) ∧ Hid (T.length = T0 + j) ∧ Box wr g 3 (cellsV [] (divQL 1000000000 (dg gk)) post) ∧ Below w.heap.size w wr ∧ B ≤ wr.heap.size) (fun _ _ i _ => 9 - (intOf i).toNat)
          case atStart => exact ⟨0, 9, G0, T, by omega, rfl, rfl, hT3, HI0, Lib.hid hG09, hG09, HD, Lib.hid (by have := HT0.out; omega), hb3, hk3, hBs3⟩
          case round =>
            obtain ⟨j, k, G, T2, hk, rfl, rfl, hT2, HI, HG, hG9, HD2, HT2, hb4, hk4, hBs4⟩ := hrel
            cases k with
            | zero =>
              obtain rfl : j = 9 := by omega
              have hA4 := (arr_segV hb4 rfl rfl (Nat.le_refl _)).more hb4.lt
              have HT9 : Hid (q * 10 ^ T2.reverse.length + decV T2.reverse = a) := Lib.hid (by
                have h1 := HI.out
                have h2 := HG.out
                rw [Nat.pow_zero] at h1 h2
                rw [show q * 1 + G = q from by omega] at h1
                exact h1)
              have HTR : Hid (tr (divQL 1000000000 (dg gk)) = dg q) := Lib.hid (by rw [tr_eq _ (dig_divQL (by omega) _ (dig_dg gk)), vl_divQL (by omega), vl_dg, HQ.out])
              have hLd : (divQL 1000000000 (dg gk)).length = L := by rw [divQL_length]; exact HLL.out
              have HLD := Lib.hid hLd
              have hA5 : Arr nv wr wr.heap.size (.slice (some ⟨g, 0, none⟩) L cap) (divQL 1000000000 (dg gk)) := (arr_segV hb4 rfl HLD.out hcm).more hb4.lt
              have HB5 : Hid (Box wr g 3 (cellsV [] (dg q) (((divQL 1000000000 (dg gk)).drop (dg q).length).map nv ++ post))) := Lib.hid (by
                have := hb4
                rw [cellsV_trim, HTR.out] at this
                exact this)
              have HL9 : Hid (T2.length + 9 * lb q ≤ 9 * lb a) := Lib.hid (by
                have h1 := HL.out
                have h2 := HG1.out
                have h3 := HT2.out
                have h4 := HT0.out
                rw [← HQ.out] at h2
                omega)
              have HM2 : Hid (Sn q) := Lib.hid (by rw [HQ.out]; exact lt_le (a := pw 200) HM.out (by omega))
              have hcq : (dg q).length ≤ cap := by rw [← HTR.out]; have := tr_len (divQL 1000000000 (dg gk)); have := HLD.out; omega
              have hqlt : q < gk := by rw [HQ.out]; exact HLT.out
              clear hA4 hLd
              go_wp2_with fail
              refine (trimmed_at _ L cap _ _ wr hA5 HTR.out (by omega)).mono ?_
              rintro e w5 ⟨rfl, hA6, rfl⟩
              go_wp2
              go_roundg q
              case rel => exact ⟨T2, _, rfl, HB5.out, hT2, HT9, HD2, HL9, hk4, hBs4, HM2, hcq⟩
              case measure => exact hqlt
            | succ k =>
              obtain ⟨ch, hch⟩ : ∃ ch : UInt8, ch = UInt8.ofNat (48 + G % 10) := ⟨_, rfl⟩
              have hchn := byte_val hch
              have hcd : isDec ch = true := by rw [hch]; exact dec_of
              have HP : Hid ((q * 10 ^ k + G / 10) * 10 ^ (T2 ++ [ch]).reverse.length + decV (T2 ++ [ch]).reverse = a) := Lib.hid (by
                rw [List.reverse_append]
                exact decV_push k HI.out ch hchn)
              have HGk : Hid (G / 10 < 10 ^ k) := Lib.hid (by have := HG.out; rw [Nat.pow_succ] at this; omega)
              have HD3 := Lib.hid (all_snoc HD2.out hcd)
              have hT2l : T2.length ≤ 1000000 := by have := HT2.out; have := HT0.out; have := HL.out; have := HLB.out; omega
              have e1 : IntKind.u8.wrap ((G : Int) % 10) = (G : Int) % 10 := wraps_u8 _ (by omega) (by omega)
              have e2 : IntKind.u8.wrap (48 + (G : Int) % 10) = 48 + (G : Int) % 10 := wraps_u8 _ (by omega) (by omega)
              have hu : Value.int .u8 (48 + (G : Int) % 10) = bv ch := value_int (by omega)
              have HU := Lib.hid hu
              clear hch hchn hcd hu
              go_wp2_with (at_builtin; refine append_byte wr rfl (.tmp 24) (.tmp 29) rfl B u4 T2 rfl hT2 ch _ HU.out rfl (by omega) hBs4 ?_; intro r1 w5 hown1 hb5)
              have hbx5 := hb4.below hb5 hgB2
              go_roundw
              case rel => exact ⟨j + 1, k, G / 10, T2 ++ [ch], by omega, by go_num, by go_num, hown1, HP, HGk, by omega, HD3, Lib.hid (by rw [List.length_append, List.length_singleton]; have := HT2.out; omega), hbx5, hk4.trans (hb5.mono hBw), Nat.le_trans hBs4 hb5.size⟩
              case measure => simp [intOf]; omega

end Go.Proofs.YtheadamdhjhnpaaDoor
