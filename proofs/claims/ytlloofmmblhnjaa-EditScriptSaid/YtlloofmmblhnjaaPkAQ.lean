/-
  append onto a row of the call's own: where the new row lies. (Other rows of the same kind stay apart from it.)
  The program's Apply.
  slices.DeleteFunc over operations.
-/
import Derived.Test.YtlloofmmblhnjaaWords
import Derived.Test.YtlloofmmblhnjaaPkAP
import Derived.Lib.SliceRun
import Derived.Lib.LazyBuf
namespace Go.Proofs.Ytlloofmmblhnjaa
open Go.RowKit

section
variable {P : Program} (w : World)
theorem run_append_where (base : Nat) (t ty e : TypeId) (i : TypeInfo) (z : Value) (bytes : Nat) (ht : P.underlying t = some (.slice e)) (hi : P.info? e = some i) (hz : i.zero = some z)
    (hsize : i.size = 1) (hby : i.bytes = bytes) (hzs : z.cells.size = 1)
    (v : Value) (n : Nat) (xs : List Value) (hown : w.ownsRow base e 1 v n xs)
    (a : Addr) (m c : Nat) (news : List Value) (hl : news.length = m) (hm : 0 < m) (hnews : ∀ j u, news[j]? = some u → w.cell? (a.add j) = some u) (h1 : ∀ u ∈ news, u.oneCell' = true)
    (h63 : n + m ≤ maxLen) (hbytes : (n + m) * bytes ≤ 140737488355328) (hbase : base ≤ w.heap.size) :
    ∃ v' w', (Builtin.append_ #[t, t] ty #[v, .slice (some a) m c]).run P w = .ok v' w' ∧ w'.ownsRow base e 1 v' (n + m) (xs ++ news) ∧ w.grownBy w' v.ownBlock ∧
      (∀ g, v'.ownBlock = some g → v.ownBlock = some g ∨ w.heap.size ≤ g) := by
  have hsmall : n + m ≤ 9223372036854775807 := by simp only [maxLen] at h63; omega
  obtain ⟨v', w', hr, h2, h3, _⟩ := run_append_own (P := P) w base t ty e i z 1 bytes ht hi hz hsize hby hzs (by decide) v n xs hown a m c news (by omega) hnews h1 h63 hbytes hbase
  refine ⟨v', w', hr, h2, h3, ?_⟩
  rcases hown.2 with ⟨rfl, rfl⟩ | ⟨g, cap, cur, rfl, hbg, hg, hnc, hcm, hcs, htake⟩
  · have hr2 := run_append_nil (P := P) w t ty e i z ht hi hz a m c news (by rw [hsize]; omega) hnews hm (by omega) (by have hb := hbytes; rw [hby]; simp only [Nat.zero_add] at hb; omega)
    rw [hr] at hr2
    injection hr2 with hv _
    intro k hk
    rw [hv] at hk
    simp only [Value.ownBlock, Option.some.injEq] at hk
    exact .inr (by omega)
  · by_cases hroom : n + m ≤ cap
    · have hr2 := run_append_room (P := P) w t ty e i ht hi g n cap cur hg a m c news (by rw [hsize]; omega) hnews h1 hroom (by rw [hsize]; omega)
      rw [hr] at hr2
      injection hr2 with hv _
      intro k hk
      rw [hv] at hk
      exact .inl hk
    · have holds : ∀ j u, xs[j]? = some u → w.cell? ((⟨g, 0, none⟩ : Addr).add j) = some u := hown.cells (g := g) rfl
      have hxl := hown.1
      have hr2 := run_append_grow (P := P) w t ty e i z ht hi hz ⟨g, 0, none⟩ n cap xs (by rw [hsize]; exact hxl) holds a m c news (by rw [hsize]; omega) hnews (by omega) (by omega) (by rw [hby]; exact growslice_fits (by omega) hbytes)
      rw [hr] at hr2
      injection hr2 with hv _
      intro k hk
      rw [hv] at hk
      simp only [Value.ownBlock, Option.some.injEq] at hk
      exact .inr (by omega)
end

theorem append_one_where {P : Program} {α : Type} {val : α → Value} (t e : TypeId) (z : Value) (bytes : Nat) (ht : P.underlying t = some (.slice e)) (info : (P.info? e).map (fun i => (i.zero, i.size, i.bytes)) = some (some z, 1, bytes))
    (hzs : z.cells.size = 1) (hbytes : bytes ≤ 100) (hval : ∀ x, (val x).oneCell' = true)
    {ops : Array Oper} {rest : List Oper} {o : Oper} {a : Act} {Q : Exit → Act → World → Prop} (w : World) (hgd : o.guard = none) (s x : Operand)
    (ho : o.op = .call { callee := .builtin .append, args := #[s, x], argTypes := #[t, t] })
    (base : Nat) (v : Value) (xs : List α) (hs : a.eval s = v) (hown : w.ownsRow base e 1 v xs.length (xs.map val)) (y : α) (u : Value) (hu : u = val y)
    (hx : a.eval x = .slice (some ⟨w.heap.size, 0, none⟩) 1 1) (hlen : xs.length ≤ 1000000000000 - 1) (hbase : base ≤ w.heap.size)
    (h : ∀ v' w', w'.ownsRow base e 1 v' (xs ++ [y]).length ((xs ++ [y]).map val) → w.grownBy w' v.ownBlock → (∀ g, v'.ownBlock = some g → v.ownBlock = some g ∨ w.heap.size ≤ g) → wpList P ops Q rest (a.put o.dst v') w') : wpList P ops Q (o :: rest) a (w.alloc (.cells #[u] e)) := by
  obtain ⟨i0, hi, hz0, hz1, hz2⟩ := info_parts info
  subst hu
  have hown1 : (w.alloc (.cells #[val y] e)).ownsRow base e 1 v xs.length (xs.map val) := own_keep_below hown ((Below.refl _ _).alloc (Nat.le_refl _) _)
  refine wpList_plain hgd fun K hK => ?_
  have hcell : ∀ j u, [val y][j]? = some u → (w.alloc (.cells #[val y] e)).cell? ((⟨w.heap.size, 0, none⟩ : Addr).add j) = some u := by
    intro j u hu
    cases j with
    | zero => simp at hu; subst hu; rw [plain_add]; exact (Box.made w e #[val y]).cell 0
    | succ j => simp at hu
  obtain ⟨v', w', hr, h2, h3, h4⟩ := run_append_where (P := P) (w.alloc (.cells #[val y] e)) base t o.type e i0 z bytes ht hi hz0 hz1 hz2 hzs v xs.length (xs.map val) hown1 ⟨w.heap.size, 0, none⟩ 1 1 [val y] rfl (by decide) hcell
    (by intro u hu; rw [List.mem_singleton] at hu; subst hu; exact hval y) (by unfold maxLen; omega) (by have := Nat.mul_le_mul (show xs.length + 1 ≤ 1000000000000 by omega) hbytes; omega) (by simp; omega)
  unfold Oper.wp execOp
  simp only [ho, resolve, invoke, builtin, Sem.run_bind, Sem.run_pure, Result.andThen_ok, List.map_toArray, List.map_cons, List.map_nil, hs, hx, hr]
  refine hK _ _ (h v' w' (by rw [List.length_append, List.map_append]; exact h2) (grown_trans (grown_of_below _ ((Below.refl _ _).alloc (Nat.le_refl _) _)) h3) fun g hg => ?_)
  rcases h4 g hg with h5 | h5
  · exact .inl h5
  · simp at h5
    exact .inr (by omega)

end Go.Proofs.Ytlloofmmblhnjaa

namespace Go.Proofs.Ytlloofmmblhnjaa
open Go.RowKit

/-- Its tail, whatever its capacity. -/
theorem tail_anyZ {w : World} {B b o n c : Nat} {l : List Int} (h : Arr iv w B (.slice (some ⟨b, o, none⟩) n c) l) (k : Nat) (hk : k ≤ n) :
    ∃ V, (∀ W : World, (Instr.sliceAt 22 (.slice (some ⟨b, o, none⟩) n c) (some (.int .i64 (k : Int))) none none).run Try.prog W = .ok V W) ∧ ∀ v, (∀ p : Addr, p.block < B → v.cell? p = w.cell? p) → Arr iv v B V (l.drop k) := by
  have hl := h.len
  have hcap := h.cap
  by_cases hkc : k < c
  · refine ⟨_, fun W => slice_tail _ elem_ints size_elem_int b o n k c hk hkc W, fun v hv => ?_⟩
    rcases h.keep hv with ⟨e, _⟩ | ⟨a, c', e, _, hb, hc⟩
    · cases e
    · injection e with e1 e2 e3
      injection e1 with e1
      subst e1 e3
      refine .inr ⟨⟨b, o + k, none⟩, c - k, by rw [List.length_drop, hl], by rw [List.length_drop]; omega, fun h0 => by rw [List.length_drop] at h0; exact hb (by omega), fun i u hu => ?_⟩
      rw [List.getElem?_drop] at hu
      have := hc (k + i) u hu
      rw [add_plain] at this ⊢
      rw [Nat.add_assoc]
      exact this
  · obtain rfl : k = n := by omega
    obtain rfl : k = c := by omega
    refine ⟨.slice (some ⟨b, o, none⟩) 0 0, fun W => ?_, fun v _ => ?_⟩
    · rw [run_sliceAt_slice W _ _ _ _ _ elem_ints, run_slice_l W _ _ k k elem_ints .i64 (k : Int) (by omega) (by omega), size_elem_int]
      simp [Result.andThen, sliced]
    · rw [List.drop_of_length_le (by omega)]
      exact .inr ⟨⟨b, o, none⟩, 0, rfl, by simp, by simp, by simp⟩

set_option maxRecDepth 20000 in
set_option maxHeartbeats 25600000 in
theorem prApply_any (A A' : Option Addr) (n c N c' : Nat) (a : List Int) (l : List OpI) (w : World) (h : Arr iv w w.heap.size (.slice A n c) a) (h' : SArr 2 ov w w.heap.size (.slice A' N c') l) (hn : n ≤ 1000000) (hN : N ≤ 1000000) :
    Calls Try.prog 28 #[.slice A n c, .slice A' N c'] w fun e w' => ∃ A n c, e = .returned (.tuple #[.slice A n c, .int .i64 (applyE a l).2]) ∧ Arr iv w' w'.heap.size (.slice A n c) (applyE a l).1 ∧ Below w.heap.size w w' := by
  have HL := Lib.hid h.len
  have HM := Lib.hid h'.len
  have HA := Lib.hid h
  have HB := Lib.hid h'
  have HC := Lib.hid (contains_wrong A' N c' l w h' hN)
  clear h h'
  cases hany : l.any badOp with
  | true =>
    have HE : Hid (applyE a l = ([], 1)) := Lib.hid (by unfold applyE; rw [if_pos hany])
    rw [hany] at HC
    clear hany
    go_enter Try.func28, Try.ntmps28
    go_wp2_with fail
    refine HC.out.mono ?_
    rintro e w1 ⟨rfl, k1⟩
    go_wp2
    go_ret2
    rw [HE.out]
    exact ⟨none, 0, 0, rfl, .inl ⟨rfl, rfl⟩, k1⟩
  | false =>
    have HG := Lib.hid hany
    rw [hany] at HC
    clear hany
    go_enter Try.func28, Try.ntmps28
    go_wp2_with fail
    refine HC.out.mono ?_
    rintro e w1 ⟨rfl, kw1⟩
    go_wp2
    go_loopw [0, 6, 13] (fun av v i wr => ∃ (k t : Nat) (O : List Int) (Ax : Option Addr) (m cx : Nat), k ≤ N ∧ t ≤ n ∧ O.length ≤ k ∧ av = .slice Ax m cx ∧ i = .int .i64 (k : Int) ∧ Hid (runE a l = (runE (a.drop t) (l.drop k)).map (O ++ ·)) ∧ Hid (Arr iv w w.heap.size (.slice Ax m cx) (a.drop t)) ∧ wr.ownsRow w.heap.size 3 1 v O.length (O.map iv) ∧ Below w.heap.size w wr) (fun _ _ i _ => N - (intOf i).toNat)
    case atStart => exact ⟨0, 0, [], A, n, c, by omega, by omega, by simp, rfl, rfl, Lib.hid (by simp), HA, World.ownsRow_nil _ _ _ _, kw1⟩
    case round =>
      obtain ⟨k, t, O, Ax, m, cx, hk, ht, hOk, rfl, rfl, HO, HA1, hown, hb⟩ := hrel
      have hbs := hb.size
      have hmn : m = n - t := by rw [← HA1.out.len, List.length_drop, HL.out]
      by_cases hlt : k < N
      · have t1 : decide ((k : Int) < (N : Int)) = true := decide_eq_true (by omega)
        have kz : (k : Int) < (N : Int) := by omega
        obtain ⟨⟨κ, ch⟩, ho⟩ : ∃ o, l[k]? = some o := ⟨_, List.getElem?_eq_getElem (by have := HM.out; omega)⟩
        have hgood : badOp (κ, ch) = false := by
          have e := HG.out
          rw [List.any_eq_false] at e
          simpa using e _ (List.mem_of_getElem? ho)
        obtain ⟨b1, o1, rfl, hB1, hc1⟩ := ops_cells HB.out (by omega)
        have d0 : wr.cell? ⟨b1, o1 + k * 2, none⟩ = some (.int .i64 κ) := (hb.cell (p := ⟨b1, o1 + k * 2, none⟩) hB1).trans (hc1 k _ ho).1
        have d1 : wr.cell? ⟨b1, o1 + k * 2 + 1, none⟩ = some (.int .i64 ch) := (hb.cell (p := ⟨b1, o1 + k * 2 + 1, none⟩) hB1).trans (hc1 k _ ho).2
        obtain ⟨k1, hk1⟩ : ∃ q, k + 1 = q := ⟨_, rfl⟩
        have ek : (k : Int) + 1 = (k1 : Int) := by omega
        have wk : IntKind.i64.wrap (k1 : Int) = (k1 : Int) := wraps_i64 _ (by omega) (by omega)
        have hk1N : k1 ≤ N := by omega
        have hOk1 : O.length + 1 ≤ k1 := by omega
        have hms : N - k1 < N - k := by omega
        have hownb : ∀ g, u6.ownBlock = some g → g ≠ wr.heap.size := fun g e => by have := (hown.lt g e).2; omega
        rcases (bad_not hgood).1 with e | e | e | e
        all_goals (replace e : κ = _ := e; subst e; clear hgood)
        · have hbxv := op_box wr 1 ch
          have hbv0 := op_below wr 1 ch
          have x0 := hbxv.cell 0
          have x1 := hbxv.cell 1
          simp at x0 x1
          have hownv := own_keep_below hown hbv0
          have hbv : Below w.heap.size w (wr.alloc (.cells #[.int .i64 1, .int .i64 ch] 50)) := hb.trans (hbv0.mono hbs)
          have hsv : (wr.alloc (.cells #[.int .i64 1, .int .i64 ch] 50)).heap.size = wr.heap.size + 1 := by simp
          have HSv := Lib.hid hsv
          have HBx := Lib.hid hbxv
          by_cases htn : t < n
          · obtain ⟨x, hx⟩ : ∃ o, a[t]? = some o := ⟨_, List.getElem?_eq_getElem (by have := HL.out; omega)⟩
            have ht1n : t + 1 ≤ n := by omega
            have hm0 : 0 < m := by omega
            obtain ⟨wv, hwv⟩ : ∃ wv, (wr.alloc (.cells #[.int .i64 1, .int .i64 ch] 50)) = wv := ⟨_, rfl⟩
            rw [hwv] at hbv
            have hA1 := HA1.out
            obtain ⟨b0, o0, rfl, hB0, hc0⟩ := hA1.some_ (show 0 < m by omega)
            have hx0 : (a.drop t)[0]? = some x := by rw [List.getElem?_drop]; simpa using hx
            have c0 : wv.cell? ⟨b0, o0, none⟩ = some (.int .i64 x) := (hbv.cell (p := ⟨b0, o0, none⟩) hB0).trans (hc0 0 x hx0)
            obtain ⟨V, hsl, hrd⟩ := tail_anyZ hA1 1 (by omega)
            have hsl' : ∀ W : World, (Instr.sliceAt 22 (.slice (some ⟨b0, o0, none⟩) m cx) (some (.int .i64 1)) none none).run Try.prog W = .ok V W := hsl
            have hA2 : Arr iv w w.heap.size V (a.drop (t + 1)) := by
              have := hrd w (fun _ _ => rfl)
              rwa [List.drop_drop] at this
            obtain ⟨Ay, cy, rfl⟩ := hA2.form
            obtain ⟨my, hmy⟩ : ∃ q, (a.drop (t + 1)).length = q := ⟨_, rfl⟩
            rw [hmy] at hsl' hA2
            have HA2 := Lib.hid hA2
            have mz : ((m : Int) == 0) = false := neE (by omega)
            have mz1 : (0 : Int) < (m : Int) := by omega
            rw [← hwv] at hbv c0
            have HO2 : Hid (runE a l = (runE (a.drop (t + 1)) (l.drop k1)).map ((O ++ [x]) ++ ·)) := Lib.hid (by rw [← hk1]; exact run_more (R := runE a l) (O := O) (c := x) (r := runE (a.drop (t + 1)) (l.drop (k + 1))) (by rw [HO.out, drop_atG ho, drop_at hx, run_take _ _ _ (by simp), if_pos rfl]))
            clear ho hx hc0 hc1 hk1 hsv hbxv hmn hwv hsl hrd hA1 hA2 hmy hx0
            go_wp2_with (at_builtin; go_loud (refine append_one_where (val := iv) 22 3 (.int .i64 0) 8 Try.underlying22 info_int rfl (by decide) one_ivE (wr.alloc (.cells #[.int .i64 1, .int .i64 ch] 50)) rfl (.tmp 39) (.tmp 43) rfl w.heap.size u6 O rfl hownv x _ rfl (by rw [HSv.out]; rfl) (by omega) (by have := HSv.out; omega) ?_; intro v2 w2 hown2 hg2 hwh2))
            have hbel2 : Below w.heap.size w w2 := below_grown hbv hg2 (Nat.le_refl _) (fun g e => (hown.lt g e).1)
            go_roundw
            case rel => exact ⟨k1, t + 1, O ++ [x], _, _, _, hk1N, ht1n, by first | omega | (rw [List.length_append, List.length_singleton]; omega), rfl, by go_num, HO2, HA2, hown2, hbel2⟩
            case measure => first | (simp [intOf]; done) | (simp [intOf]; omega)
          · have HE : Hid (applyE a l = ([], 2)) := Lib.hid (apply_none HG.out (by rw [HO.out, drop_atG ho, List.drop_eq_nil_of_le (by have := HL.out; omega), run_none _ (by simp)]; rfl))
            have mz : ((m : Int) == 0) = true := eqE (by omega)
            clear ho hc1 hk1 hsv hbxv hmn
            go_wp2_with fail
            go_ret2
            rw [HE.out]
            exact ⟨none, 0, 0, rfl, .inl ⟨rfl, rfl⟩, hbv⟩
        · have hbxv := op_box wr 2 ch
          have hbv0 := op_below wr 2 ch
          have x0 := hbxv.cell 0
          have x1 := hbxv.cell 1
          simp at x0 x1
          have hownv := own_keep_below hown hbv0
          have hbv : Below w.heap.size w (wr.alloc (.cells #[.int .i64 2, .int .i64 ch] 50)) := hb.trans (hbv0.mono hbs)
          have hsv : (wr.alloc (.cells #[.int .i64 2, .int .i64 ch] 50)).heap.size = wr.heap.size + 1 := by simp
          have HSv := Lib.hid hsv
          have HBx := Lib.hid hbxv
          by_cases htn : t < n
          · obtain ⟨x, hx⟩ : ∃ o, a[t]? = some o := ⟨_, List.getElem?_eq_getElem (by have := HL.out; omega)⟩
            have ht1n : t + 1 ≤ n := by omega
            have hm0 : 0 < m := by omega
            obtain ⟨wv, hwv⟩ : ∃ wv, (wr.alloc (.cells #[.int .i64 2, .int .i64 ch] 50)) = wv := ⟨_, rfl⟩
            rw [hwv] at hbv
            have hA1 := HA1.out
            obtain ⟨b0, o0, rfl, hB0, hc0⟩ := hA1.some_ (show 0 < m by omega)
            have hx0 : (a.drop t)[0]? = some x := by rw [List.getElem?_drop]; simpa using hx
            have c0 : wv.cell? ⟨b0, o0, none⟩ = some (.int .i64 x) := (hbv.cell (p := ⟨b0, o0, none⟩) hB0).trans (hc0 0 x hx0)
            obtain ⟨V, hsl, hrd⟩ := tail_anyZ hA1 1 (by omega)
            have hsl' : ∀ W : World, (Instr.sliceAt 22 (.slice (some ⟨b0, o0, none⟩) m cx) (some (.int .i64 1)) none none).run Try.prog W = .ok V W := hsl
            have hA2 : Arr iv w w.heap.size V (a.drop (t + 1)) := by
              have := hrd w (fun _ _ => rfl)
              rwa [List.drop_drop] at this
            obtain ⟨Ay, cy, rfl⟩ := hA2.form
            obtain ⟨my, hmy⟩ : ∃ q, (a.drop (t + 1)).length = q := ⟨_, rfl⟩
            rw [hmy] at hsl' hA2
            have HA2 := Lib.hid hA2
            have mz : ((m : Int) == 0) = false := neE (by omega)
            have mz1 : (0 : Int) < (m : Int) := by omega
            rw [← hwv] at hbv c0
            have HO2 : Hid (runE a l = (runE (a.drop (t + 1)) (l.drop k1)).map ((O ++ [ch]) ++ ·)) := Lib.hid (by rw [← hk1]; exact run_more (R := runE a l) (O := O) (c := ch) (r := runE (a.drop (t + 1)) (l.drop (k + 1))) (by rw [HO.out, drop_atG ho, drop_at hx, run_take _ _ _ (by simp), if_neg (by simp), if_pos rfl]))
            clear ho hx hc0 hc1 hk1 hsv hbxv hmn hwv hsl hrd hA1 hA2 hmy hx0
            go_wp2_with (at_builtin; go_loud (refine append_one_where (val := iv) 22 3 (.int .i64 0) 8 Try.underlying22 info_int rfl (by decide) one_ivE (wr.alloc (.cells #[.int .i64 2, .int .i64 ch] 50)) rfl (.tmp 25) (.tmp 28) rfl w.heap.size u6 O rfl hownv ch _ rfl (by rw [HSv.out]; rfl) (by omega) (by have := HSv.out; omega) ?_; intro v2 w2 hown2 hg2 hwh2; have hbx2 := HBx.out.grown hg2 (fun e => hownb _ e.symm rfl); have y0 := hbx2.cell 0; have y1 := hbx2.cell 1; simp at y0 y1))
            have hbel2 : Below w.heap.size w w2 := below_grown hbv hg2 (Nat.le_refl _) (fun g e => (hown.lt g e).1)
            go_roundw
            case rel => exact ⟨k1, t + 1, O ++ [ch], _, _, _, hk1N, ht1n, by first | omega | (rw [List.length_append, List.length_singleton]; omega), rfl, by go_num, HO2, HA2, hown2, hbel2⟩
            case measure => first | (simp [intOf]; done) | (simp [intOf]; omega)
          · have HE : Hid (applyE a l = ([], 2)) := Lib.hid (apply_none HG.out (by rw [HO.out, drop_atG ho, List.drop_eq_nil_of_le (by have := HL.out; omega), run_none _ (by simp)]; rfl))
            have mz : ((m : Int) == 0) = true := eqE (by omega)
            clear ho hc1 hk1 hsv hbxv hmn
            go_wp2_with (at_builtin; go_loud (refine append_one_where (val := iv) 22 3 (.int .i64 0) 8 Try.underlying22 info_int rfl (by decide) one_ivE (wr.alloc (.cells #[.int .i64 2, .int .i64 ch] 50)) rfl (.tmp 25) (.tmp 28) rfl w.heap.size u6 O rfl hownv ch _ rfl (by rw [HSv.out]; rfl) (by omega) (by have := HSv.out; omega) ?_; intro v2 w2 hown2 hg2 hwh2; have hbx2 := HBx.out.grown hg2 (fun e => hownb _ e.symm rfl); have y0 := hbx2.cell 0; have y1 := hbx2.cell 1; simp at y0 y1))
            have hbel2 : Below w.heap.size w w2 := below_grown hbv hg2 (Nat.le_refl _) (fun g e => (hown.lt g e).1)
            go_ret2
            rw [HE.out]
            exact ⟨none, 0, 0, rfl, .inl ⟨rfl, rfl⟩, hbel2⟩
        · have hbxv := op_box wr 3 ch
          have hbv0 := op_below wr 3 ch
          have x0 := hbxv.cell 0
          have x1 := hbxv.cell 1
          simp at x0 x1
          have hownv := own_keep_below hown hbv0
          have hbv : Below w.heap.size w (wr.alloc (.cells #[.int .i64 3, .int .i64 ch] 50)) := hb.trans (hbv0.mono hbs)
          have hsv : (wr.alloc (.cells #[.int .i64 3, .int .i64 ch] 50)).heap.size = wr.heap.size + 1 := by simp
          have HSv := Lib.hid hsv
          have HBx := Lib.hid hbxv
          by_cases htn : t < n
          · obtain ⟨x, hx⟩ : ∃ o, a[t]? = some o := ⟨_, List.getElem?_eq_getElem (by have := HL.out; omega)⟩
            have ht1n : t + 1 ≤ n := by omega
            have hm0 : 0 < m := by omega
            obtain ⟨wv, hwv⟩ : ∃ wv, (wr.alloc (.cells #[.int .i64 3, .int .i64 ch] 50)) = wv := ⟨_, rfl⟩
            rw [hwv] at hbv
            have hA1 := HA1.out
            obtain ⟨b0, o0, rfl, hB0, hc0⟩ := hA1.some_ (show 0 < m by omega)
            have hx0 : (a.drop t)[0]? = some x := by rw [List.getElem?_drop]; simpa using hx
            have c0 : wv.cell? ⟨b0, o0, none⟩ = some (.int .i64 x) := (hbv.cell (p := ⟨b0, o0, none⟩) hB0).trans (hc0 0 x hx0)
            obtain ⟨V, hsl, hrd⟩ := tail_anyZ hA1 1 (by omega)
            have hsl' : ∀ W : World, (Instr.sliceAt 22 (.slice (some ⟨b0, o0, none⟩) m cx) (some (.int .i64 1)) none none).run Try.prog W = .ok V W := hsl
            have hA2 : Arr iv w w.heap.size V (a.drop (t + 1)) := by
              have := hrd w (fun _ _ => rfl)
              rwa [List.drop_drop] at this
            obtain ⟨Ay, cy, rfl⟩ := hA2.form
            obtain ⟨my, hmy⟩ : ∃ q, (a.drop (t + 1)).length = q := ⟨_, rfl⟩
            rw [hmy] at hsl' hA2
            have HA2 := Lib.hid hA2
            have mz : ((m : Int) == 0) = false := neE (by omega)
            have mz1 : (0 : Int) < (m : Int) := by omega
            rw [← hwv] at hbv c0
            have HO2 : Hid (runE a l = (runE (a.drop (t + 1)) (l.drop k1)).map (O ++ ·)) := Lib.hid (by rw [← hk1, HO.out, drop_atG ho, drop_at hx, run_take _ _ _ (by simp), if_neg (by simp), if_neg (by simp)])
            clear ho hx hc0 hc1 hk1 hsv hbxv hmn hwv hsl hrd hA1 hA2 hmy hx0
            go_wp2_with fail
            go_roundw
            case rel => exact ⟨k1, t + 1, O, _, _, _, hk1N, ht1n, by first | omega | (rw [List.length_append, List.length_singleton]; omega), rfl, by go_num, HO2, HA2, hownv, hbv⟩
            case measure => first | (simp [intOf]; done) | (simp [intOf]; omega)
          · have HE : Hid (applyE a l = ([], 2)) := Lib.hid (apply_none HG.out (by rw [HO.out, drop_atG ho, List.drop_eq_nil_of_le (by have := HL.out; omega), run_none _ (by simp)]; rfl))
            have mz : ((m : Int) == 0) = true := eqE (by omega)
            clear ho hc1 hk1 hsv hbxv hmn
            go_wp2_with fail
            go_ret2
            rw [HE.out]
            exact ⟨none, 0, 0, rfl, .inl ⟨rfl, rfl⟩, hbv⟩
        · have hbxv := op_box wr 4 ch
          have hbv0 := op_below wr 4 ch
          have x0 := hbxv.cell 0
          have x1 := hbxv.cell 1
          simp at x0 x1
          have hownv := own_keep_below hown hbv0
          have hbv : Below w.heap.size w (wr.alloc (.cells #[.int .i64 4, .int .i64 ch] 50)) := hb.trans (hbv0.mono hbs)
          have hsv : (wr.alloc (.cells #[.int .i64 4, .int .i64 ch] 50)).heap.size = wr.heap.size + 1 := by simp
          have HSv := Lib.hid hsv
          have HBx := Lib.hid hbxv
          have HO2 : Hid (runE a l = (runE (a.drop t) (l.drop k1)).map ((O ++ [ch]) ++ ·)) := Lib.hid (by rw [← hk1]; exact run_more (R := runE a l) (O := O) (c := ch) (r := runE (a.drop t) (l.drop (k + 1))) (by rw [HO.out, drop_atG ho, run_ins _ _ (by simp)]))
          have HA2 := HA1
          have ht1n := ht
          clear ho hc1 hk1 hsv hbxv hmn
          go_wp2_with (at_builtin; go_loud (refine append_one_where (val := iv) 22 3 (.int .i64 0) 8 Try.underlying22 info_int rfl (by decide) one_ivE (wr.alloc (.cells #[.int .i64 4, .int .i64 ch] 50)) rfl (.tmp 25) (.tmp 28) rfl w.heap.size u6 O rfl hownv ch _ rfl (by rw [HSv.out]; rfl) (by omega) (by have := HSv.out; omega) ?_; intro v2 w2 hown2 hg2 hwh2; have hbx2 := HBx.out.grown hg2 (fun e => hownb _ e.symm rfl); have y0 := hbx2.cell 0; have y1 := hbx2.cell 1; simp at y0 y1))
          have hbel2 : Below w.heap.size w w2 := below_grown hbv hg2 (Nat.le_refl _) (fun g e => (hown.lt g e).1)
          go_roundw
          case rel => exact ⟨k1, t, O ++ [ch], _, _, _, hk1N, ht1n, by first | omega | (rw [List.length_append, List.length_singleton]; omega), rfl, by go_num, HO2, HA2, hown2, hbel2⟩
          case measure => first | (simp [intOf]; done) | (simp [intOf]; omega)
      · have t1 : decide ((k : Int) < (N : Int)) = false := decide_eq_false (by omega)
        have hd : l.drop k = [] := List.drop_eq_nil_of_le (by have := HM.out; omega)
        by_cases htn : t < n
        · have t2 : decide ((0 : Int) < (m : Int)) = true := decide_eq_true (by omega)
          have m0 : (0 : Int) < (m : Int) := by omega
          obtain ⟨x, hx⟩ : ∃ o, a[t]? = some o := ⟨_, List.getElem?_eq_getElem (by have := HL.out; omega)⟩
          have HE : Hid (applyE a l = ([], 2)) := Lib.hid (apply_none HG.out (by rw [HO.out, hd, drop_at hx]; rfl))
          clear hd hx hown hmn
          go_wp2_with fail
          go_ret2
          rw [HE.out]
          exact ⟨none, 0, 0, rfl, .inl ⟨rfl, rfl⟩, hb⟩
        · have t2 : decide ((0 : Int) < (m : Int)) = false := decide_eq_false (by omega)
          have hm0 : m = 0 := by omega
          subst hm0
          have HE : Hid (applyE a l = (O, 0)) := Lib.hid (apply_some HG.out (by rw [HO.out, hd, List.drop_eq_nil_of_le (by have := HL.out; omega)]; simp [runE]))
          have hA := Arr.of_own hown
          obtain ⟨A4, c4, rfl⟩ := hA.form
          have HA4 := Lib.hid hA
          clear hd hA hown hmn
          go_wp2_with fail
          go_ret2
          rw [HE.out]
          exact ⟨_, _, _, rfl, HA4.out, hb⟩

end Go.Proofs.Ytlloofmmblhnjaa

namespace Go.Proofs.Ytlloofmmblhnjaa
open Go.RowKit

theorem elem_ops : Try.prog.underlying 35 = some (.slice (Try.prog.elem 35)) := by kernel_rfl
theorem elem_ops' : Try.prog.elem 35 = 50 := by kernel_rfl
theorem size_elem_op (W : World) : (sizeOf (Try.prog.elem 35)).run Try.prog W = .ok 2 W := by kernel_rfl
theorem zero_op (W : World) : (zeroValue 50).run Try.prog W = .ok (.agg #[.int .i64 0, .int .i64 0]) W := by kernel_rfl
theorem head_ops (A : Option Addr) (n c N : Nat) (hN : N ≤ c) (W : World) :
    (Instr.sliceAt 35 (.slice A n c) none (some (.int .i64 (N : Int))) none).run Try.prog W = .ok (.slice A N c) W := by
  rw [run_sliceAt_slice W _ _ _ _ _ elem_ops, run_slice_h W _ A n c elem_ops .i64 (N : Int) (by omega) (by omega), size_elem_op]
  simp only [Result.andThen, sliced, Int.toNat_natCast, Nat.zero_mul, Nat.sub_zero]
  cases A with
  | none => simp
  | some a => simp [add_zero_]
theorem tail_ops (b off n m c : Nat) (hm : m ≤ n) (hc : m < c) (W : World) :
    (Instr.sliceAt 35 (.slice (some ⟨b, off, none⟩) n c) (some (.int .i64 (m : Int))) none none).run Try.prog W = .ok (.slice (some ⟨b, off + m * 2, none⟩) (n - m) (c - m)) W := by
  rw [run_sliceAt_slice W _ _ _ _ _ elem_ops, run_slice_l W _ _ n c elem_ops .i64 (m : Int) (by omega) (by omega), size_elem_op]
  simp only [Result.andThen, sliced, Int.toNat_natCast]
  rw [if_neg (by omega), Option.map_some, add_plain]

/-- clear(s) over n > 0 operations. -/
theorem clear_ops (w : World) (ty : TypeId) (b o n c : Nat) (hn : 0 < n) (hc : ∀ j, j < n * 2 → (w.cell? ⟨b, o + j, none⟩).isSome = true) (hf : ∀ j, j < n * 2 → w.frozen? ⟨b, o + j, none⟩ = false) :
    ∃ vs : List Value, vs.length = n * 2 ∧ (Builtin.clear_ #[35] ty #[.slice (some ⟨b, o, none⟩) n c]).run Try.prog w = .ok (.tuple #[]) (w.setCells b o vs) := by
  have hlen : (Builtin.zeroCells #[.int .i64 0, .int .i64 0] n).toList.length = n * 2 := by simp [Builtin.zeroCells]
  refine ⟨(Builtin.zeroCells #[.int .i64 0, .int .i64 0] n).toList, hlen, ?_⟩
  have hst := run_storeCells_cells (P := Try.prog) b o (Builtin.zeroCells #[.int .i64 0, .int .i64 0] n).toList 0 w (by simpa [hlen] using hc) (by simpa [hlen] using hf) (by
    intro v hv
    simp [Builtin.zeroCells] at hv
    obtain ⟨i, -, rfl⟩ := hv
    have : (i : Nat) % 2 = 0 ∨ (i : Nat) % 2 = 1 := by omega
    rcases this with h | h <;> simp [h, Value.oneCell'])
  simp only [Nat.add_zero] at hst
  obtain ⟨m, rfl⟩ : ∃ m, n = m + 1 := ⟨n - 1, by omega⟩
  have ht : Try.prog.underlying 35 = some (.slice 50) := by rw [elem_ops, elem_ops']
  simp [Builtin.clear_, run_underlying ht, Value.cells, hst]

/-- The list in the making: K stands ahead, what is left of l from j on. -/
def DelI (w : World) (g cap : Nat) (l K : List OpI) (j : Nat) : Prop := ∃ cs : Array Value, Box w g 50 cs ∧ cs.size = cap * 2 ∧ (∀ t o, K[t]? = some o → cs[t * 2]? = some (.int .i64 o.1) ∧ cs[t * 2 + 1]? = some (.int .i64 o.2)) ∧
  ∀ t o, j ≤ t → l[t]? = some o → cs[t * 2]? = some (.int .i64 o.1) ∧ cs[t * 2 + 1]? = some (.int .i64 o.2)
theorem DelI.keep {w w' : World} {g cap : Nat} {l K : List OpI} {j : Nat} (h : DelI w g cap l K j) (hk : w'.heap[g]? = w.heap[g]?) : DelI w' g cap l K j := by
  obtain ⟨cs, h1, h2⟩ := h
  exact ⟨cs, hk.trans h1, h2⟩
theorem DelI.lt {w : World} {g cap : Nat} {l K : List OpI} {j : Nat} (h : DelI w g cap l K j) : g < w.heap.size := by
  obtain ⟨cs, h1, _⟩ := h; exact h1.lt
theorem DelI.skip {w : World} {g cap : Nat} {l K : List OpI} {j j' : Nat} (h : DelI w g cap l K j) (hj : j ≤ j') : DelI w g cap l K j' := by
  obtain ⟨cs, h1, h2, h3, h4⟩ := h
  exact ⟨cs, h1, h2, h3, fun t o ht => h4 t o (by omega)⟩
theorem DelI.at_ {w : World} {g cap : Nat} {l K : List OpI} {j : Nat} (h : DelI w g cap l K j) {o : OpI} (ho : l[j]? = some o) : w.cell? ⟨g, j * 2, none⟩ = some (.int .i64 o.1) ∧ w.cell? ⟨g, j * 2 + 1, none⟩ = some (.int .i64 o.2) := by
  obtain ⟨cs, h1, h2, h3, h4⟩ := h
  rw [h1.cell, h1.cell]
  exact h4 j o (Nat.le_refl _) ho
theorem DelI.has {w : World} {g cap : Nat} {l K : List OpI} {j : Nat} (h : DelI w g cap l K j) {t : Nat} (ht : t < cap * 2) : (∃ v, w.cell? ⟨g, t, none⟩ = some v) ∧ w.frozen? ⟨g, t, none⟩ = false := by
  obtain ⟨cs, h1, h2, _⟩ := h
  exact ⟨⟨cs[t]'(by omega), by rw [h1.cell t]; exact Array.getElem?_eq_getElem (by omega)⟩, h1.free t⟩
theorem DelI.put {w : World} {g cap : Nat} {l K : List OpI} {j : Nat} (h : DelI w g cap l K (j + 1)) (hK : K.length ≤ j) (hj : j < cap) (o : OpI) :
    DelI ((w.setCell ⟨g, K.length * 2, none⟩ (.int .i64 o.1)).setCell ⟨g, K.length * 2 + 1, none⟩ (.int .i64 o.2)) g cap l (K ++ [o]) (j + 1) := by
  obtain ⟨cs, h1, h2, h3, h4⟩ := h
  refine ⟨_, (h1.put _ _).put _ _, by simp [h2], fun t q hq => ?_, fun t q ht hq => ?_⟩
  · by_cases htk : t < K.length
    · rw [List.getElem?_append_left htk] at hq
      have := h3 t q hq
      rw [Array.getElem?_setIfInBounds_ne (by omega), Array.getElem?_setIfInBounds_ne (by omega), Array.getElem?_setIfInBounds_ne (by omega), Array.getElem?_setIfInBounds_ne (by omega)]
      exact this
    · rw [List.getElem?_append_right (by omega)] at hq
      have ht : t = K.length := by
        by_cases e : t = K.length
        · exact e
        · rw [List.getElem?_eq_none (by simp; omega)] at hq
          cases hq
      subst ht
      simp at hq
      subst hq
      refine ⟨?_, ?_⟩
      · have hk : K.length * 2 < cs.size := by omega
        rw [Array.getElem?_setIfInBounds_ne (by omega), Array.getElem?_setIfInBounds_self_of_lt hk]
      · have hk : K.length * 2 + 1 < (cs.setIfInBounds (K.length * 2) (.int .i64 o.1)).size := by rw [Array.size_setIfInBounds]; omega
        rw [Array.getElem?_setIfInBounds_self_of_lt hk]
  · have := h4 t q ht hq
    rw [Array.getElem?_setIfInBounds_ne (by omega), Array.getElem?_setIfInBounds_ne (by omega), Array.getElem?_setIfInBounds_ne (by omega), Array.getElem?_setIfInBounds_ne (by omega)]
    exact this

theorem kept_snoc {l : List OpI} {j : Nat} {o : OpI} (h : l[j]? = some o) : keptE (l.take (j + 1)) = keptE (l.take j) ++ if insP o = true then [] else [o] := by
  rw [take_next h]
  unfold keptE
  rw [List.filter_append]
  unfold insP
  by_cases h4 : o.1 = 4 <;> simp [h4]
theorem kept_none {l : List OpI} (h : ∀ o ∈ l, insP o = false) : keptE l = l := by
  unfold keptE
  rw [List.filter_eq_self]
  intro o ho
  have := h o ho
  unfold insP at this
  simp [this]
theorem kept_le (l : List OpI) : (keptE l).length ≤ l.length := List.length_filter_le _ _

end Go.Proofs.Ytlloofmmblhnjaa
