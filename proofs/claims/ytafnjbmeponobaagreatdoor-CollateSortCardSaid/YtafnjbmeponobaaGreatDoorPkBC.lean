/-
  The program's elements of a character that is passed alone.
  The reference's elements of collate: what its loops hold, in plain mathematics; the laws of slices that it wants.
-/
import Derived.Test.YtafnjbmeponobaaGreatDoorPkAL
import Derived.Test.YtafnjbmeponobaaGreatDoorPkAW
import Derived.Test.YtafnjbmeponobaaGreatDoorPkAY
import Derived.Test.YtafnjbmeponobaaGreatDoorPkBB
import Derived.Laws.Runes
namespace Go.Proofs.YtafnjbmeponobaaGreatDoor
open Go.RowKit

theorem info_pel : (Tryz.prog.info? 75).map (fun i => (i.zero, i.size, i.bytes)) = some (some (.agg #[.int .i64 0, .int .i64 0, .int .i64 0]), 3, 24) := by kernel_rfl
/-- A row of elements of the call's own. -/
def OwnEls (w : World) (base : Nat) (v : Value) (o : List El) : Prop := w.ownsRow base 75 3 v o.length (o.flatMap ev)
/-- What a function that appends elements returns. -/
def EndApp (base : Nat) (w : World) (o : List El) (e : Ending) (w' : World) : Prop := ∃ v, e = .returned v ∧ OwnEls w' base v o ∧ Below base w w'
theorem encL_one (c : Nat) : encL [c] = encC c := by simp [encL]
/-- The secondary weight of a Latin letter. -/
theorem lat_second {c : Nat} (h : hasN c = true) : (if decide (nSearch (encL [c]) = encL [lowN c]) = true then 1 else 2) = (if is1 (seaN c) (lowN c) = true then 1 else 2) := by
  have hd := (sea_enc h).1
  have hl : decR (encL [lowN c]) = some [lowN c] := dec_enc _ fun x hx => by rw [List.mem_singleton.1 hx]; exact ok_of_has (low_has h)
  by_cases h1 : seaN c = [lowN c]
  · rw [if_pos (is1_of h1), if_pos]
    refine decide_eq_true ?_
    have e1 := (enc_dec hd).1
    rw [← e1, h1]
  · rw [if_neg (fun e => h1 (is1_eq e)), if_neg]
    intro e
    have e1 := of_decide_eq_true e
    rw [e1, hl] at hd
    exact h1 (Option.some.inj hd).symm
theorem cap_if (c : Nat) : (if ((c : Int) == (lowN c : Int)) = true then (1 : Int) else 2) = (capN c : Int) := by
  unfold capN
  by_cases h : lowN c = c
  · rw [if_pos (beq_of h), if_pos (by rw [h]; simp)]; rfl
  · rw [if_neg (by rw [eqb_false (by omega)]; exact Bool.false_ne_true), if_neg (by rw [beq_false h]; exact Bool.false_ne_true)]; rfl
theorem lw_low {x : Nat} (h1 : 97 ≤ x) (h2 : x ≤ 122) : lwI (x : Int) = ((30000 + 100 * (x - 97) : Nat) : Int) := by
  unfold lwI
  rw [if_neg (by omega), if_neg (by omega), if_neg (by omega), if_neg (by omega), if_neg (by omega)]
  omega

set_option maxRecDepth 100000 in
set_option maxHeartbeats 6400000 in
theorem prLatin_any (base : Nat) (v : Value) (o : List El) (c : Nat) (w : World) (hS : Spans w) (hown : OwnEls w base v o) (hbase : base ≤ w.heap.size) (ho : o.length ≤ 1000000000) (hq : Asked c) (hk : kN c = 1) (hs : scN c = 1) :
    Calls Tryz.prog 98 #[v, .int .i64 (c : Int), .int .i64 (lowN c : Int)] w (EndApp base w (o ++ singleL c)) := by
  obtain ⟨hl97, hl5, hc5, hcase⟩ := wt_single hq.has hq.whole hk
  rcases hcase with ⟨_, hsl, hab, hsl3⟩ | ⟨hns, _⟩
  case inr => exact absurd hs hns
  have hcR : hasR (c : Int) = true := by rw [hasN_eq]; exact hq.has
  have hlR : hasR (lowN c : Int) = true := by rw [hasN_eq]; exact low_has hq.has
  have he1 := encode_has hcR
  have he2 := encode_has hlR
  rw [← encL_one] at he1 he2
  obtain ⟨hd, hdl⟩ := sea_enc hq.has
  have hsec := lat_second hq.has
  have hlen1 := encL_len [c]
  have HSe := Lib.hid (prSearch_s (encL [c]) w hS (by simp at hlen1; omega))
  obtain ⟨t, ht⟩ : ∃ t, nSearch (encL [c]) = t := ⟨_, rfl⟩
  rw [ht] at hd hdl hsec HSe
  have htl : t.length ≤ 9 := by omega
  obtain ⟨f, hf⟩ : ∃ f : Nat → El, f = fun x => (30000 + 100 * (x - 97), (if is1 (seaN c) (lowN c) = true then 1 else 2), capN c) := ⟨_, rfl⟩
  have HF : Hid (singleL c = (seaN c).map f) := Lib.hid (by rw [hsl, hf]; rfl)
  have HQs := str_beq t (encL [lowN c])
  obtain ⟨bq, hbq⟩ : ∃ bq, decide (t = encL [lowN c]) = bq := ⟨_, rfl⟩
  rw [hbq] at HQs hsec
  obtain ⟨sec, hse⟩ : ∃ sec, (if is1 (seaN c) (lowN c) = true then 1 else 2) = sec := ⟨_, rfl⟩
  rw [hse] at hsec hf
  have HO1 := Lib.hid (fun W => prOneIf_any bq W)
  have hi1 : (if bq = true then (1 : Int) else 2) = (sec : Int) := by rw [← hsec]; split <;> rfl
  rw [hi1] at HO1
  obtain ⟨cq, hcq⟩ : ∃ cq, ((c : Int) == (lowN c : Int)) = cq := ⟨_, rfl⟩
  have HO2 := Lib.hid (fun W => prOneIf_any cq W)
  have hi2 : (if cq = true then (1 : Int) else 2) = (capN c : Int) := by rw [← hcq]; exact cap_if c
  rw [hi2] at HO2
  obtain ⟨u, hu⟩ : ∃ u, capN c = u := ⟨_, rfl⟩
  rw [hu] at HO2 hf
  obtain ⟨R, hR⟩ : ∃ R, o ++ singleL c = R := ⟨_, rfl⟩
  rw [hR]
  rw [HF.out] at hR
  have HR := Lib.hid hR
  have HD := Lib.hid hd
  have HAb := Lib.hid hab
  have HFx : Hid (∀ x, f x = (30000 + 100 * (x - 97), sec, u)) := Lib.hid fun x => by rw [hf]
  have hcz : (c : Int) ≤ 100000 := by omega
  have hlz : (lowN c : Int) ≤ 100000 := by omega
  have hlz0 : (97 : Int) ≤ (lowN c : Int) := by omega
  obtain ⟨l, hl⟩ : ∃ l, lowN c = l := ⟨_, rfl⟩
  rw [hl] at he2 HQs hcq hlz hlz0 ⊢
  obtain ⟨e1, hE1⟩ : ∃ e1, encL [c] = e1 := ⟨_, rfl⟩
  obtain ⟨e2, hE2⟩ : ∃ e2, encL [l] = e2 := ⟨_, rfl⟩
  rw [hE1] at he1 HSe
  rw [hE2] at he2 HQs
  obtain ⟨S, hSe⟩ : ∃ S, seaN c = S := ⟨_, rfl⟩
  have hS3 : S.length ≤ 3 := by rw [← hSe]; exact hsl3
  rw [hSe] at HAb HR HD
  have HOwn := Lib.hid hown
  clear hE1 hE2 hl hd hab hf hu hi1 hi2 hse hbq ht hR HF hsl hsl3 hsec hk hs hq hc5 hl5 hl97 hlen1 hdl hown hcR hlR hSe
  go_enter Tryz.func98, Tryz.ntmps98
  go_wp2_with fail
  refine HSe.out.mono ?_
  rintro e w1 ⟨rfl, k1⟩
  go_wp2_with fail
  refine (HO1.out _).mono ?_
  rintro e w2 ⟨rfl, rfl⟩
  have hown1 := own_keep_below HOwn.out k1
  have hB1 : Below base w w1 := k1.mono hbase
  have hb1 : base ≤ w1.heap.size := Nat.le_trans hbase k1.size
  have hsz : (str t).size = t.length := rfl
  go_wp2
  go_loopw [0] (fun v0 wr => ∃ (pos : Nat) (lx : List Nat), OwnEls wr base v0 (o ++ lx.map f) ∧ wr.heap[w1.heap.size]? = some (.stringIter (str t) pos) ∧ Hid (Past t pos lx) ∧ Below base w1 wr) (fun _ wr => t.length - wr.iterPos w1.heap.size)
  case atStart =>
    refine ⟨0, [], ?_, World.iter_heap w1 (str t) 0, Lib.hid (Past.start t), (Below.refl _ _).alloc hb1 _⟩
    rw [List.map_nil, List.append_nil]
    exact own_keep_below hown1 ((Below.refl _ _).alloc (Nat.le_refl _) _)
  case round =>
    obtain ⟨pos, lx, hO, hit, HP, hb⟩ := hrel
    have hks : w1.heap.size < wr.heap.size := (Array.getElem?_eq_some_iff.1 hit).1
    by_cases hp : pos < t.length
    · obtain ⟨x, n, hcn⟩ : ∃ c n, Utf8.decode (str t) pos = (c, n) := ⟨_, _, rfl⟩
      have hnx : ∀ ty, (Instr.next (.pointer (some ⟨w1.heap.size, 0, none⟩)) true ty).run Tryz.prog wr = _ := fun ty => Lib.run_next_any_at wr w1.heap.size (str t) pos ty hit hp
      have hit2 := Lib.iterAt_heap wr w1.heap.size (str t) pos (pos + (Utf8.decode (str t) pos).2) hit
      have hO2 := own_iterG hO hit (pos + (Utf8.decode (str t) pos).2)
      have hbw2 := Lib.below_iterAt hb (k := w1.heap.size) hb1 (str t) (pos + (Utf8.decode (str t) pos).2)
      have hcm := decode_le (str t) pos
      simp only [hcn] at hnx hit2 hbw2 hcm hO2
      have hx : hasR (x : Int) = true := by
        cases hx : hasR (x : Int) with
        | true => rfl
        | false => have h := HP.out.rune_bad hp hcn hx; rw [HD.out] at h; cases h
      obtain ⟨hP1, hP0⟩ := HP.out.rune hp hcn hx
      obtain ⟨⟨mr, hmr⟩, _⟩ := hP1.took HD.out
      have hxm := HAb.out x (by rw [hmr]; simp)
      have hx97 := hxm.1
      have hx122 := hxm.2
      have hle := hP1.1
      have HP1 := Lib.hid hP1
      have HW := Lib.hid (fun W => prWeight_any (x : Int) W (by omega) (by omega))
      rw [lw_low hx97 hx122] at HW
      obtain ⟨pw, hpw⟩ : ∃ pw, 30000 + 100 * (x - 97) = pw := ⟨_, rfl⟩
      rw [hpw] at HW
      have hfx : f x = (pw, sec, u) := by rw [HFx.out, hpw]
      have hll : lx.length ≤ 3 := by
        have := congrArg List.length hmr
        simp only [List.length_append, List.length_cons, List.length_nil] at this
        omega
      have hxz : (x : Int) ≤ 122 := by omega
      have hxz0 : (97 : Int) ≤ (x : Int) := by omega
      obtain ⟨W, hW⟩ : ∃ W, wr.iterAt w1.heap.size (str t) (pos + n) = W := ⟨_, rfl⟩
      rw [hW] at hnx hit2 hbw2 hO2
      have hbs := hbw2.size
      have hWs : w1.heap.size < W.heap.size := (Array.getElem?_eq_some_iff.1 hit2).1
      have hol : (o ++ lx.map f).length ≤ 1000000000000 - 1 := by rw [List.length_append, List.length_map]; omega
      have HE : Hid (o ++ (lx ++ [x]).map f = (o ++ lx.map f) ++ [(pw, sec, u)]) := Lib.hid (by rw [List.map_append, List.map_cons, List.map_nil, hfx, List.append_assoc])
      obtain ⟨oo, hoo⟩ : ∃ oo, o ++ lx.map f = oo := ⟨_, rfl⟩
      rw [hoo] at hO2 hol HE
      clear hcn hP1 hx hW hmr hpw hfx hxm hoo hO hx97 hx122
      go_wp2_with fail
      refine (HW.out _).mono ?_
      rintro e w3 ⟨rfl, rfl⟩
      go_wp2_with fail
      refine (HO2.out _).mono ?_
      rintro e w4 ⟨rfl, rfl⟩
      have hO3 := hO2
      unfold OwnEls at hO3
      go_wp2_with (at_builtin; refine append_struct_g (val := ev) 72 75 (.agg #[.int .i64 0, .int .i64 0, .int .i64 0]) 24 Tryz.underlying72 info_pel rfl (by decide) (by decide) ev_len ev_one _ rfl (.tmp 26) (.tmp 36) rfl base _ oo rfl hO3 (pw, sec, u) #[.int .i64 (pw : Int), .int .i64 (sec : Int), .int .i64 (u : Int)] (by simp [ev]) _ rfl rfl hol (by omega) ?_; intro v7 w7 hown7 hg7)
      have hit7 := iter_apart hit2 hO3 hg7
      have hb7 := below_own hO3 (by omega) hg7
      go_wp2
      go_roundw
      case rel => exact ⟨pos + n, lx ++ [x], by rw [HE.out]; exact hown7, hit7, HP1, hbw2.trans hb7⟩
      case measure =>
        rw [iterPos_of hit7, iterPos_of hit]
        omega
    · have HE : Hid (R = o ++ lx.map f) := Lib.hid (by
        have h := HP.out.done hp
        rw [HD.out] at h
        rw [← HR.out, Option.some.inj h])
      have hnx : ∀ ty, (Instr.next (.pointer (some ⟨w1.heap.size, 0, none⟩)) true ty).run Tryz.prog wr = _ := fun ty => Lib.run_next_end_at wr w1.heap.size (str t) pos ty hit hp
      go_wp2
      go_ret
      rw [HE.out]
      exact ⟨_, rfl, hO, hB1.trans hb⟩

set_option maxRecDepth 100000 in
set_option maxHeartbeats 6400000 in
theorem prElem_any (base : Nat) (v : Value) (o : List El) (c : Nat) (w : World) (hS : Spans w) (hown : OwnEls w base v o) (hbase : base ≤ w.heap.size) (ho : o.length ≤ 1000000000) (hq : Asked c) :
    Calls Tryz.prog 80 #[v, .int .i64 (c : Int), .int .i64 (lowN c : Int)] w (EndApp base w (o ++ singleL c)) := by
  have HC := Lib.hid (prClass_any (c : Int) w hS)
  have hk : clsR (c : Int) = (scN c, kN c) := by rw [clsF_eq]; rfl
  rw [hk] at HC
  unfold two at HC
  have HS := Lib.hid hS
  have ok := ok_col hq.has hq.whole
  have hc16 : c < 65536 := (ok_of_has hq.has).1
  have HQ := Lib.hid hq
  have hdig := ok.dig
  have hmark := ok.mark
  have hkind : kN c = 1 ∨ kN c = 2 ∨ kN c = 3 ∨ kN c = 4 ∨ kN c = 5 := kind_one hq.has
  have HWt := Lib.hid (fun h => wt_single (c := c) hq.has hq.whole h)
  have HO := Lib.hid hown
  have hcap := cap_if c
  obtain ⟨R, hR⟩ : ∃ R, singleL c = R := ⟨_, rfl⟩
  have HR := Lib.hid hR
  rw [hR]
  rw [single_open] at hR
  obtain ⟨k, hk2⟩ : ∃ k, kN c = k := ⟨_, rfl⟩
  obtain ⟨s, hs⟩ : ∃ s, scN c = s := ⟨_, rfl⟩
  have HK := Lib.hid hk2
  have HSc := Lib.hid hs
  rw [hk2] at hdig hmark hkind
  rw [hk2, hs] at HC
  rw [hk2] at hR
  obtain ⟨l, hl⟩ : ∃ l, lowN c = l := ⟨_, rfl⟩
  have HLo := Lib.hid hl
  rw [hl] at hcap ⊢
  clear hk hk2 hs hl ok hq hS hown
  by_cases h0 : k = 4
  · subst h0
    have HE : Hid (R = [(100, 1, 1)]) := Lib.hid (by rw [← hR, if_pos rfl])
    clear hR hdig hmark hkind hcap
    go_enter Tryz.func80, Tryz.ntmps80
    go_wp2_with fail
    refine HC.out.mono ?_
    rintro e w1 ⟨rfl, k1⟩
    have hown1 := own_keep_below HO.out k1
    have hb1 : base ≤ w1.heap.size := Nat.le_trans hbase k1.size
    have hB1 : Below base w w1 := k1.mono hbase
    go_wp2_with (at_builtin; refine append_struct_g (val := ev) 72 75 (.agg #[.int .i64 0, .int .i64 0, .int .i64 0]) 24 Tryz.underlying72 info_pel rfl (by decide) (by decide) ev_len ev_one _ rfl (.tmp 17) (.tmp 19) rfl base _ o rfl hown1 (100, 1, 1) #[.int .i64 100, .int .i64 1, .int .i64 1] (by simp [ev]) _ rfl rfl (by omega) (by omega) ?_; intro v7 w7 hown7 hg7)
    go_wp2
    go_ret
    rw [HE.out]
    exact ⟨_, rfl, hown7, hB1.trans (below_own hown1 hb1 hg7)⟩
  have t0 : ((k : Int) == 4) = false := eqb_false (by omega)
  by_cases h1 : k = 5
  · subst h1
    have HE : Hid (R = [(100 * c, 1, 1)]) := Lib.hid (by rw [← hR, if_neg h0, if_pos rfl])
    have s1 : IntKind.i64.wrap (100 * (c : Int)) = 100 * (c : Int) := wraps_i64 _ (by omega) (by omega)
    clear hR hdig hmark hkind hcap
    go_enter Tryz.func80, Tryz.ntmps80
    go_wp2_with fail
    refine HC.out.mono ?_
    rintro e w1 ⟨rfl, k1⟩
    have hown1 := own_keep_below HO.out k1
    have hb1 : base ≤ w1.heap.size := Nat.le_trans hbase k1.size
    have hB1 : Below base w w1 := k1.mono hbase
    go_wp2_with (at_builtin; refine append_struct_g (val := ev) 72 75 (.agg #[.int .i64 0, .int .i64 0, .int .i64 0]) 24 Tryz.underlying72 info_pel rfl (by decide) (by decide) ev_len ev_one _ rfl (.tmp 24) (.tmp 28) rfl base _ o rfl hown1 (100 * c, 1, 1) #[.int .i64 (100 * (c : Int)), .int .i64 1, .int .i64 1] (by simp [ev] <;> omega) _ rfl rfl (by omega) (by omega) ?_; intro v7 w7 hown7 hg7)
    go_wp2
    go_ret
    rw [HE.out]
    exact ⟨_, rfl, hown7, hB1.trans (below_own hown1 hb1 hg7)⟩
  have t1 : ((k : Int) == 5) = false := eqb_false (by omega)
  by_cases h2 : k = 3
  · subst h2
    have HE : Hid (R = [(20000 + 100 * (c - 48), 1, 1)]) := Lib.hid (by rw [← hR, if_neg h0, if_neg h1, if_pos rfl])
    have hd48 := hdig rfl
    have s1 : IntKind.i64.wrap ((c : Int) - 48) = (c : Int) - 48 := wraps_i64 _ (by omega) (by omega)
    have s2 : IntKind.i64.wrap (100 * ((c : Int) - 48)) = 100 * ((c : Int) - 48) := wraps_i64 _ (by omega) (by omega)
    have s3 : IntKind.i64.wrap (20000 + 100 * ((c : Int) - 48)) = 20000 + 100 * ((c : Int) - 48) := wraps_i64 _ (by omega) (by omega)
    clear hR hdig hmark hkind hcap
    go_enter Tryz.func80, Tryz.ntmps80
    go_wp2_with fail
    refine HC.out.mono ?_
    rintro e w1 ⟨rfl, k1⟩
    have hown1 := own_keep_below HO.out k1
    have hb1 : base ≤ w1.heap.size := Nat.le_trans hbase k1.size
    have hB1 : Below base w w1 := k1.mono hbase
    go_wp2_with (at_builtin; refine append_struct_g (val := ev) 72 75 (.agg #[.int .i64 0, .int .i64 0, .int .i64 0]) 24 Tryz.underlying72 info_pel rfl (by decide) (by decide) ev_len ev_one _ rfl (.tmp 33) (.tmp 39) rfl base _ o rfl hown1 (20000 + 100 * (c - 48), 1, 1) #[.int .i64 (20000 + 100 * ((c : Int) - 48)), .int .i64 1, .int .i64 1] (by simp [ev] <;> omega) _ rfl rfl (by omega) (by omega) ?_; intro v7 w7 hown7 hg7)
    go_wp2
    go_ret
    rw [HE.out]
    exact ⟨_, rfl, hown7, hB1.trans (below_own hown1 hb1 hg7)⟩
  have t2 : ((k : Int) == 3) = false := eqb_false (by omega)
  by_cases h3 : k = 2
  · subst h3
    have HE : Hid (R = [(0, 10 + (c - 768), 1)]) := Lib.hid (by rw [← hR, if_neg h0, if_neg h1, if_neg h2, if_pos rfl])
    have hd768 := hmark rfl
    have s1 : IntKind.i64.wrap (10 + (c : Int)) = 10 + (c : Int) := wraps_i64 _ (by omega) (by omega)
    have s2 : IntKind.i64.wrap (10 + (c : Int) - 768) = 10 + (c : Int) - 768 := wraps_i64 _ (by omega) (by omega)
    clear hR hdig hmark hkind hcap
    go_enter Tryz.func80, Tryz.ntmps80
    go_wp2_with fail
    refine HC.out.mono ?_
    rintro e w1 ⟨rfl, k1⟩
    have hown1 := own_keep_below HO.out k1
    have hb1 : base ≤ w1.heap.size := Nat.le_trans hbase k1.size
    have hB1 : Below base w w1 := k1.mono hbase
    go_wp2_with (at_builtin; refine append_struct_g (val := ev) 72 75 (.agg #[.int .i64 0, .int .i64 0, .int .i64 0]) 24 Tryz.underlying72 info_pel rfl (by decide) (by decide) ev_len ev_one _ rfl (.tmp 44) (.tmp 49) rfl base _ o rfl hown1 (0, 10 + (c - 768), 1) #[.int .i64 0, .int .i64 (10 + (c : Int) - 768), .int .i64 1] (by simp [ev] <;> omega) _ rfl rfl (by omega) (by omega) ?_; intro v7 w7 hown7 hg7)
    go_wp2
    go_ret
    rw [HE.out]
    exact ⟨_, rfl, hown7, hB1.trans (below_own hown1 hb1 hg7)⟩
  have t3 : ((k : Int) == 2) = false := eqb_false (by omega)
  obtain rfl : k = 1 := by omega
  obtain ⟨hl97, hl5, hc5, hcase⟩ := HWt.out HK.out
  rw [HLo.out] at hl97 hl5 hcase
  have HLat := Lib.hid (fun (W : World) (hW : Below w.heap.size w W) (h1 : scN c = 1) => prLatin_any base v o c W (HS.out.below hW) (own_keep_below HO.out hW) (Nat.le_trans hbase hW.size) ho HQ.out HK.out h1)
  rw [HLo.out, HR.out] at HLat
  by_cases h5 : s = 1
  · subst h5
    clear hR hdig hmark hkind hcap hcase
    go_enter Tryz.func80, Tryz.ntmps80
    go_wp2_with fail
    refine HC.out.mono ?_
    rintro e w1 ⟨rfl, k1⟩
    have hown1 := own_keep_below HO.out k1
    have hb1 : base ≤ w1.heap.size := Nat.le_trans hbase k1.size
    have hB1 : Below base w w1 := k1.mono hbase
    go_wp2_with fail
    refine (HLat.out _ k1 HSc.out).mono ?_
    rintro e w2 ⟨v2, rfl, hO2, hB2⟩
    go_wp2
    go_ret
    exact ⟨_, rfl, hO2, hB1.trans hB2⟩
  · have t5 : ((s : Int) == 1) = false := eqb_false (by omega)
    have HE : Hid (R = [(lwN l, 1, capN c)]) := Lib.hid (by
      rcases hcase with ⟨h1, _⟩ | ⟨_, h2⟩
      · rw [HSc.out] at h1; exact absurd h1 h5
      · rw [← HR.out]; exact h2)
    have HW := Lib.hid (fun W => prWeight_any (l : Int) W (by omega) (by omega))
    rw [lw_eq hl97] at HW
    obtain ⟨cq, hcq⟩ : ∃ cq, ((c : Int) == (l : Int)) = cq := ⟨_, rfl⟩
    rw [hcq] at hcap
    have HO2 := Lib.hid (fun W => prOneIf_any cq W)
    rw [hcap] at HO2
    obtain ⟨u, hu⟩ : ∃ u, capN c = u := ⟨_, rfl⟩
    rw [hu] at HO2 HE
    obtain ⟨pw, hpw⟩ : ∃ pw, lwN l = pw := ⟨_, rfl⟩
    rw [hpw] at HW HE
    clear hR hdig hmark hkind hcap hcase hu hpw
    go_enter Tryz.func80, Tryz.ntmps80
    go_wp2_with fail
    refine HC.out.mono ?_
    rintro e w1 ⟨rfl, k1⟩
    have hown1 := own_keep_below HO.out k1
    have hb1 : base ≤ w1.heap.size := Nat.le_trans hbase k1.size
    have hB1 : Below base w w1 := k1.mono hbase
    go_wp2_with fail
    refine (HW.out _).mono ?_
    rintro e w3 ⟨rfl, rfl⟩
    go_wp2_with fail
    refine (HO2.out _).mono ?_
    rintro e w4 ⟨rfl, rfl⟩
    go_wp2_with (at_builtin; refine append_struct_g (val := ev) 72 75 (.agg #[.int .i64 0, .int .i64 0, .int .i64 0]) 24 Tryz.underlying72 info_pel rfl (by decide) (by decide) ev_len ev_one _ rfl (.tmp 58) (.tmp 66) rfl base _ o rfl hown1 (pw, 1, u) #[.int .i64 (pw : Int), .int .i64 1, .int .i64 (u : Int)] (by simp [ev]) _ rfl rfl (by omega) (by omega) ?_; intro v7 w7 hown7 hg7)
    go_wp2
    go_ret
    rw [HE.out]
    exact ⟨_, rfl, hown7, hB1.trans (below_own hown1 hb1 hg7)⟩

end Go.Proofs.YtafnjbmeponobaaGreatDoor

namespace Go.Proofs.YtafnjbmeponobaaGreatDoor
open Go.RowKit

/-- A letter of a tailoring as the model holds it. -/
def rv (x : RuleL) : List Value := [.string (str x.1), .string (str x.2)]
theorem rv_len (x : RuleL) : (rv x).length = 2 := rfl
theorem rv_one (x : RuleL) : ∀ u ∈ rv x, u.oneCell' = true := by
  intro u hu
  simp only [rv, List.mem_cons, List.not_mem_nil, or_false] at hu
  rcases hu with rfl | rfl <;> rfl
theorem lets_cells {w : World} {B n c : Nat} {A : Option Addr} {t : List RuleL} (h : SArr 2 rv w B (.slice A n c) t) (h0 : 0 < n) :
    ∃ b off, A = some ⟨b, off, none⟩ ∧ b < B ∧ ∀ (i : Nat) (x : RuleL), t[i]? = some x → w.cell? ⟨b, off + i * 2, none⟩ = some (.string (str x.1)) ∧ w.cell? ⟨b, off + i * 2 + 1, none⟩ = some (.string (str x.2)) := by
  obtain ⟨b, off, e, hb, hc⟩ := h.some_ rv_len (by decide) h0
  exact ⟨b, off, e, hb, fun i x hx => ⟨hc i x hx 0 _ rfl, hc i x hx 1 _ rfl⟩⟩

/-! The search for the longest Text. -/
def BestK (T : List LetL) (l : List Nat) (k : Nat) (z : Int) (m : Nat) : Prop :=
  (z = -1 ∧ m = 0 ∧ (T.zipIdx.take k).foldl (stepC l) none = none) ∨ ∃ j, z = ((j : Nat) : Int) ∧ j < T.length ∧ (T.zipIdx.take k).foldl (stepC l) none = some (j, m)
theorem bestK_zero (T : List LetL) (l : List Nat) : BestK T l 0 (-1) 0 := .inl ⟨rfl, rfl, by simp⟩
theorem bestK_len {T : List LetL} {l : List Nat} {k m : Nat} {z : Int} (h : BestK T l k z m) : lenB ((T.zipIdx.take k).foldl (stepC l) none) = m := by
  rcases h with ⟨_, h2, h3⟩ | ⟨j, _, _, h3⟩
  · rw [h3, h2]; rfl
  · rw [h3]; rfl
theorem foldK_next {T : List LetL} {k : Nat} {x : LetL} (hx : T[k]? = some x) (l : List Nat) : (T.zipIdx.take (k + 1)).foldl (stepC l) none = stepC l ((T.zipIdx.take k).foldl (stepC l) none) (x, k) := by
  have h : T.zipIdx[k]? = some (x, k) := by rw [List.getElem?_zipIdx, hx]; simp
  rw [take_next h, List.foldl_append]
  rfl
theorem step_no {l : List Nat} {o : Option (Nat × Nat)} {x : LetL} {k : Nat} (h : ¬(passB l x.1 = true ∧ lenB o < x.1.length)) : stepC l o (x, k) = o := if_neg h
theorem step_yes {l : List Nat} {o : Option (Nat × Nat)} {x : LetL} {k : Nat} (h : passB l x.1 = true ∧ lenB o < x.1.length) : stepC l o (x, k) = some (k, x.1.length) := if_pos h
theorem bestK_no {T : List LetL} {l : List Nat} {k m : Nat} {z : Int} {x : LetL} (h : BestK T l k z m) (hx : T[k]? = some x) (hb : ¬(passB l x.1 = true ∧ m < x.1.length)) : BestK T l (k + 1) z m := by
  have hl := bestK_len h
  have e : (T.zipIdx.take (k + 1)).foldl (stepC l) none = (T.zipIdx.take k).foldl (stepC l) none := by
    rw [foldK_next hx]
    exact step_no (by rw [hl]; exact hb)
  unfold BestK at h ⊢
  rw [e]
  exact h
theorem bestK_yes {T : List LetL} {l : List Nat} {k m : Nat} {z : Int} {x : LetL} (h : BestK T l k z m) (hx : T[k]? = some x) (hb : passB l x.1 = true) (hm : m < x.1.length) : BestK T l (k + 1) (k : Int) x.1.length := by
  have hl := bestK_len h
  refine .inr ⟨k, rfl, (List.getElem?_eq_some_iff.1 hx).1, ?_⟩
  rw [foldK_next hx]
  exact step_yes ⟨hb, by rw [hl]; exact hm⟩
theorem bestK_all {T : List LetL} {l : List Nat} {m : Nat} {z : Int} (h : BestK T l T.length z m) : (z = -1 ∧ bestC T l = none) ∨ ∃ j, z = ((j : Nat) : Int) ∧ j < T.length ∧ bestC T l = some (j, m) := by
  have e : (T.zipIdx.take T.length).foldl (stepC l) none = bestC T l := by
    rw [List.take_of_length_le (by rw [List.length_zipIdx]; exact Nat.le_refl _)]
    rfl
  unfold BestK at h
  rw [e] at h
  rcases h with ⟨h1, _, h3⟩ | h
  · exact .inl ⟨h1, h3⟩
  · exact .inr h

/-! One step. -/
theorem elems_fuel (T : List LetL) : ∀ (f g : Nat) (l : List Nat), l.length ≤ f → l.length ≤ g → elemsF f T l = elemsF g T l
  | 0, g, l, h, _ => by
    obtain rfl := List.length_eq_zero_iff.1 (Nat.le_zero.1 h)
    cases g <;> rfl
  | f + 1, 0, l, _, h => by
    obtain rfl := List.length_eq_zero_iff.1 (Nat.le_zero.1 h)
    rfl
  | f + 1, g + 1, [], _, _ => rfl
  | f + 1, g + 1, c :: l, hf, hg => by
    simp only [List.length_cons] at hf hg
    rw [elemsF, elemsF]
    cases hb : bestC T (c :: l) with
    | none =>
      simp only
      rw [elems_fuel T f g l (by omega) (by omega)]
    | some b =>
      simp only
      have h0 := (best_some hb).choose_spec.2.2.1
      have hl : ((c :: l).drop b.2).length ≤ l.length := by rw [List.length_drop, List.length_cons]; omega
      rw [elems_fuel T f g _ (by omega) (by omega)]
theorem elemsL_none {T : List LetL} {c : Nat} {l : List Nat} (h : bestC T (c :: l) = none) : elemsL T (c :: l) = singleL c ++ elemsL T l := by
  show elemsF (l.length + 1) T (c :: l) = _
  rw [elemsF, h]
  rfl
theorem elemsL_some {T : List LetL} {l : List Nat} {b : Nat × Nat} (h : bestC T l = some b) : elemsL T l = tailEl T l b :: elemsL T (l.drop b.2) := by
  obtain ⟨x, _, _, h0, _, hl⟩ := best_some h
  cases l with
  | nil => simp at hl; omega
  | cons c l =>
    show elemsF (l.length + 1) T (c :: l) = _
    rw [elemsF, h]
    simp only
    have hd : ((c :: l).drop b.2).length ≤ l.length := by rw [List.length_drop, List.length_cons]; omega
    unfold elemsL
    rw [elems_fuel T l.length _ _ hd (Nat.le_refl _)]
theorem elemsL_nil (T : List LetL) : elemsL T [] = [] := rfl

/-! Tails of a slice of numbers; a slice of structs behind a row of the call's own. -/
theorem tail_any {w : World} {B b o n c : Nat} {l : List Nat} (h : Arr nv w B (.slice (some ⟨b, o, none⟩) n c) l) (k : Nat) (hk : k ≤ n) :
    ∃ V, (∀ W : World, (Instr.sliceAt 34 (.slice (some ⟨b, o, none⟩) n c) (some (.int .i64 (k : Int))) none none).run Tryz.prog W = .ok V W) ∧ ∀ v, (∀ p : Addr, p.block < B → v.cell? p = w.cell? p) → Arr nv v B V (l.drop k) := by
  have hl := h.len
  have hcap := h.cap
  by_cases hkc : k < c
  · refine ⟨_, fun W => slice_tail _ elem_ints size_elem_int b o n k c hk hkc W, fun v hv => ?_⟩
    rcases h.keep hv with ⟨e, _⟩ | ⟨a, c', e, _, hb, hc⟩
    · cases e
    · injection e with e1 e2 e3
      injection e1 with e1
      subst e1 e3
      refine .inr ⟨⟨b, o + k, none⟩, c - k, by rw [List.length_drop, hl], by rw [List.length_drop]; omega, fun h0 => by rw [List.length_drop] at h0; exact hb (by omega), fun i u hu => ?_⟩
      rw [List.getElem?_drop] at hu
      have := hc (k + i) u hu
      rw [add_plain] at this ⊢
      rw [Nat.add_assoc]
      exact this
  · obtain rfl : k = n := by omega
    obtain rfl : k = c := by omega
    refine ⟨.slice (some ⟨b, o, none⟩) 0 0, fun W => ?_, fun v _ => ?_⟩
    · rw [run_sliceAt_slice W _ _ _ _ _ elem_ints, run_slice_l W _ _ k k elem_ints .i64 (k : Int) (by omega) (by omega), size_elem_int]
      simp [Result.andThen, sliced]
    · rw [List.drop_of_length_le (by omega)]
      exact .inr ⟨⟨b, o, none⟩, 0, rfl, by simp, by simp, by simp⟩
theorem append_structs {P : Program} {α : Type} {sz : Nat} {val : α → List Value} (t e : TypeId) (z : Value) (bytes : Nat) (ht : P.underlying t = some (.slice e)) (info : (P.info? e).map (fun i => (i.zero, i.size, i.bytes)) = some (some z, sz, bytes))
    (hzs : z.cells.size = sz) (hs0 : 0 < sz) (hbytes : bytes ≤ 100) (hv : ∀ x, (val x).length = sz) (hval : ∀ x, ∀ u ∈ val x, u.oneCell' = true)
    {ops : Array Oper} {rest : List Oper} {o : Oper} {a : Act} {Q : Exit → Act → World → Prop} (w : World) (hgd : o.guard = none) (s x : Operand)
    (ho : o.op = .call { callee := .builtin .append, args := #[s, x], argTypes := #[t, t] })
    (base B : Nat) (v : Value) (xs : List α) (hs : a.eval s = v) (hown : w.ownsRow base e sz v xs.length (xs.flatMap val)) (ys : List α) (V : Value)
    (hx : a.eval x = V) (hV : SArr sz val w B V ys) (h0 : 0 < ys.length) (hlen : xs.length + ys.length ≤ 1000000000000) (hbase : base ≤ w.heap.size)
    (h : ∀ v' w', w'.ownsRow base e sz v' (xs ++ ys).length ((xs ++ ys).flatMap val) → Below base w w' → wpList P ops Q rest (a.put o.dst v') w') : wpList P ops Q (o :: rest) a w := by
  obtain ⟨i0, hi, hz0, hz1, hz2⟩ := info_parts info
  obtain ⟨A, c, rfl⟩ := hV.form
  obtain ⟨b, off, rfl, _, hc⟩ := hV.some_ hv hs0 h0
  have hfl : (ys.flatMap val).length = ys.length * sz := flat_len hv ys
  refine wpList_append_own w hgd s x t ho base e i0 z sz bytes ht hi hz0 hz1 hz2 hzs hs0 v xs.length (xs.flatMap val) hs hown ⟨b, off, none⟩ ys.length c (ys.flatMap val) hx hfl (fun j u hu => ?_)
    (fun u hu => by obtain ⟨y, _, hy⟩ := List.mem_flatMap.1 hu; exact hval y u hy) (by unfold maxLen; omega) (by have := Nat.mul_le_mul (show xs.length + ys.length ≤ 1000000000000 by omega) hbytes; omega) hbase ?_
  · have hj : j < ys.length * sz := by rw [← hfl]; exact (List.getElem?_eq_some_iff.1 hu).1
    have hq : j / sz < ys.length := Nat.div_lt_of_lt_mul (by rw [Nat.mul_comm]; exact hj)
    have hr : j % sz < sz := Nat.mod_lt _ hs0
    obtain ⟨y, hy⟩ : ∃ y, ys[j / sz]? = some y := ⟨_, List.getElem?_eq_getElem hq⟩
    obtain ⟨u', hu'⟩ : ∃ u', (val y)[j % sz]? = some u' := ⟨_, List.getElem?_eq_getElem (by rw [hv]; exact hr)⟩
    have h1 := flat_at hv ys (j / sz) y (j % sz) u' hy hu'
    have h2 := hc (j / sz) y hy (j % sz) u' hu'
    have ej : j / sz * sz + j % sz = j := by rw [Nat.mul_comm]; exact Nat.div_add_mod j sz
    rw [ej] at h1
    rw [Nat.add_assoc, ej] at h2
    rw [h1] at hu
    rw [add_plain, h2, Option.some.inj hu]
  · intro v' w' h1 h2 _
    exact h v' w' (by rw [List.length_append, List.flatMap_append]; exact h1) ((Below.refl _ _).grown h2 hbase fun k hk => (hown.lt k hk).1)

end Go.Proofs.YtafnjbmeponobaaGreatDoor
