/-
  The reference's Zone.
  What the document promises of articles, by bytes.
  What the document promises of articles: titles without one, titles with each.
-/
import Derived.Test.YtbnchnbblchmnaaDoorPkAY
import Derived.Test.YtbnchnbblchmnaaDoorPkAK
namespace Go.Proofs.YtbnchnbblchmnaaDoor
open Go.RowKit

/-- append(s, y) of one struct; the new row is the old one, or a new block. -/
theorem append_struct_where {P : Program} {α : Type} {val : α → List Value} {sz : Nat} (t e : TypeId) (z : Value) (bytes : Nat) (ht : P.underlying t = some (.slice e)) (info : (P.info? e).map (fun i => (i.zero, i.size, i.bytes)) = some (some z, sz, bytes))
    (hzs : z.cells.size = sz) (hs0 : 0 < sz) (hbytes : bytes ≤ 100) (hv : ∀ x, (val x).length = sz) (hval : ∀ x, ∀ u ∈ val x, u.oneCell' = true)
    {ops : Array Oper} {rest : List Oper} {o : Oper} {a : Act} {Q : Exit → Act → World → Prop} (w : World) (hgd : o.guard = none) (s x : Operand)
    (ho : o.op = .call { callee := .builtin .append, args := #[s, x], argTypes := #[t, t] })
    (base : Nat) (v : Value) (xs : List α) (hs : a.eval s = v) (hown : w.ownsRow base e sz v xs.length (xs.flatMap val)) (y : α) (u : Array Value) (hu : u = (val y).toArray) (N : Nat) (hN : w.heap.size = N)
    (hx : a.eval x = .slice (some ⟨N, 0, none⟩) 1 1) (hlen : xs.length ≤ 1000000000000 - 1) (hbase : base ≤ w.heap.size)
    (h : ∀ v' w', w'.ownsRow base e sz v' (xs ++ [y]).length ((xs ++ [y]).flatMap val) → w.grownBy w' v.ownBlock → (∀ g, v'.ownBlock = some g → v.ownBlock = some g ∨ w.heap.size ≤ g) → wpList P ops Q rest (a.put o.dst v') w') : wpList P ops Q (o :: rest) a (w.alloc (.cells u e)) := by
  obtain ⟨i0, hi, hz0, hz1, hz2⟩ := info_parts info
  subst hu hN
  have hown1 : (w.alloc (.cells (val y).toArray e)).ownsRow base e sz v xs.length (xs.flatMap val) := own_keep_below hown ((Below.refl _ _).alloc (Nat.le_refl _) _)
  have hcell : ∀ j u, (val y)[j]? = some u → (w.alloc (.cells (val y).toArray e)).cell? ((⟨w.heap.size, 0, none⟩ : Addr).add j) = some u := by
    intro j u hu
    rw [plain_add, (Box.made w e (val y).toArray).cell]
    simpa using hu
  refine wpList_append_own_at (w := w.alloc (.cells (val y).toArray e)) hgd s x t ho base e i0 z sz bytes ht hi hz0 hz1 hz2 hzs hs0 v xs.length (xs.flatMap val) hs hown1 ⟨w.heap.size, 0, none⟩ 1 1 (val y) hx (by rw [hv, Nat.one_mul]) hcell (hval y)
    (by unfold maxLen; omega) (by have := Nat.mul_le_mul (show xs.length + 1 ≤ 1000000000000 by omega) hbytes; omega) (by simp; omega) ?_
  intro v' w' h1 h2 _ h4
  refine h v' w' (by rw [List.length_append, List.flatMap_append]; simpa using h1) (grown_trans (grown_of_below _ ((Below.refl _ _).alloc (Nat.le_refl _) _)) h2) fun g hg => ?_
  rcases h4 with h5 | h5
  · exact .inl (h5 ▸ hg)
  · rw [h5] at hg
    injection hg with hg
    simp at hg
    exact .inr (by omega)

/-! Bounds on zones. -/
theorem begin_app (gap : Nat) (o : List WordL) (z : List (List UInt8)) (b : Nat) : beginOf gap (o ++ z.zipIdx b) = if z = [] then beginOf gap o else b + z.length + gap := by
  refine list_snoc (fun z : List (List UInt8) => beginOf gap (o ++ z.zipIdx b) = if z = [] then beginOf gap o else b + z.length + gap) ?_ (fun z x _ => ?_) z
  · simp
  · rw [List.zipIdx_append, ← List.append_assoc, if_neg (by simp)]
    unfold beginOf
    simp
    omega
theorem zone_bound (gap M : Nat) (l : List (List UInt8)) : (∀ s ∈ l, (textsB s).length ≤ M) → beginOf gap (zoneP gap l) ≤ l.length * (M + 1 + gap) ∧ (zoneP gap l).length ≤ l.length * M := by
  refine list_snoc (fun l => (∀ s ∈ l, (textsB s).length ≤ M) → beginOf gap (zoneP gap l) ≤ l.length * (M + 1 + gap) ∧ (zoneP gap l).length ≤ l.length * M) (fun _ => ⟨Nat.zero_le _, Nat.zero_le _⟩) (fun l s ih h => ?_) l
  obtain ⟨h1, h2⟩ := ih fun t ht => h t (List.mem_append_left _ ht)
  have h3 := h s (List.mem_append_right _ (List.mem_singleton.2 rfl))
  rw [zone_snoc, begin_app, List.length_append, List.length_append, List.length_zipIdx, List.length_singleton, Nat.add_mul, Nat.add_mul, Nat.one_mul, Nat.one_mul]
  constructor
  · split <;> omega
  · omega
theorem cast_len (l : List WordL) : (castW l).length = l.length := by unfold castW; rw [List.length_map]
/-- The end of a row of words. -/
theorem begin_last (gap : Nat) {O : List WordL} {m : Nat} (hm : O.length = m + 1) : ∃ x p, (castW O)[m]? = some (x, ((p : Nat) : Int)) ∧ beginOf gap O = p + 1 + gap := by
  obtain ⟨z, hz⟩ : ∃ z, O[m]? = some z := ⟨_, List.getElem?_eq_getElem (by omega)⟩
  refine ⟨z.1, z.2, by unfold castW; rw [List.getElem?_map, hz]; rfl, ?_⟩
  unfold beginOf
  rw [List.getLast?_eq_getElem?, hm, Nat.add_sub_cancel, hz]
theorem words_at (s : List UInt8) {q : Nat} (hq : q < (textsB s).length) : ∃ y, (textsB s)[q]? = some y ∧ (castW (wordsP s))[q]? = some (y, (q : Int)) := by
  refine ⟨_, List.getElem?_eq_getElem hq, ?_⟩
  unfold castW wordsP
  rw [List.getElem?_map, List.getElem?_zipIdx, List.getElem?_eq_getElem hq]
  simp
/-- The cells of a row of words of a call's own. -/
theorem own_words {w : World} {B e c : Nat} {A : Option Addr} {xs : List WordI} (h : w.ownsRow B e 2 (.slice A xs.length c) xs.length (xs.flatMap wv)) (h0 : 0 < xs.length) :
    ∃ b cs, A = some ⟨b, 0, none⟩ ∧ B ≤ b ∧ b < w.heap.size ∧ Box w b e cs ∧ ∀ i x, xs[i]? = some x → cs[i * 2]? = some (.string (str x.1)) ∧ cs[i * 2 + 1]? = some (.int .i64 x.2) := by
  rcases h.2 with ⟨hv', h0'⟩ | ⟨g, cap, cur, hvv, hB, hg, hc, _, hsz, htake⟩
  · omega
  · injection hvv with e1 e2 e3
    refine ⟨g, cur, e1, hB, (Array.getElem?_eq_some_iff.1 hg).1, hg, fun i x hx => ?_⟩
    have key : ∀ j u, (wv x)[j]? = some u → cur[i * 2 + j]? = some u := by
      intro j u hu
      have h2 := flat_at wv_len xs i x j u hx hu
      rw [← htake, List.getElem?_take] at h2
      split at h2
      · rw [← Array.getElem?_toList]; exact h2
      · cases h2
    exact ⟨key 0 _ rfl, key 1 _ rfl⟩

set_option maxRecDepth 20000 in
set_option maxHeartbeats 6400000 in
theorem refZone10_bad (v : Value) (g : Int) (w : World) (h : g < 0 ∨ 1000 < g) :
    Calls Tryd.prog 19 #[v, .int .i64 g] w fun e w' => e = .returned (.tuple #[.slice none 0 0, .int .i64 2]) ∧ w' = w := by
  go_enter Tryd.func19, Tryd.ntmps19
  by_cases h1 : g < 0
  · have t1 : decide (g < 0) = true := decide_eq_true h1
    go_wp2
    go_ret2
    exact ⟨rfl, rfl⟩
  · have t1 : decide (g < 0) = false := decide_eq_false h1
    have h2 : 1000 < g := by omega
    have t2 : decide (1000 < g) = true := decide_eq_true h2
    go_wp2
    go_ret2
    exact ⟨rfl, rfl⟩

set_option maxRecDepth 20000 in
set_option maxHeartbeats 6400000 in
theorem refZone10_any (A : Option Addr) (n c : Nat) (l : List (List UInt8)) (G : Nat) (w : World) (h : Arr sv w w.heap.size (.slice A n c) l) (hn : n ≤ 1000) (hl : ∀ s ∈ l, s.length ≤ 1000) (hG : G ≤ 1000) :
    Calls Tryd.prog 19 #[.slice A n c, .int .i64 (G : Int)] w fun e w' => ∃ A' n' c', e = .returned (.tuple #[.slice A' n' c', .int .i64 0]) ∧ SArr 2 wv w' w'.heap.size (.slice A' n' c') (castW (zoneP G l)) ∧ Below w.heap.size w w' := by
  have HL := Lib.hid h.len
  have HB : Hid (∀ k, k ≤ n → beginOf G (zoneP G (l.take k)) ≤ 1000000000 ∧ (zoneP G (l.take k)).length ≤ 1000000000) := Lib.hid fun k hk => by
    obtain ⟨h1, h2⟩ := zone_bound G 48001 (l.take k) fun s hs => by
      have h8 := texts_len s
      have h9 := hl s (List.mem_of_mem_take hs)
      omega
    have h3 : (l.take k).length ≤ 1000 := by rw [List.length_take]; omega
    have h4 := Nat.mul_le_mul h3 (Nat.le_refl (48001 + 1 + G))
    have h5 := Nat.mul_le_mul h3 (Nat.le_refl 48001)
    omega
  have HW := Lib.hid fun (x : List UInt8) (hx : x ∈ l) W => refWords10_own x W (by have := hl x hx; omega)
  have t1 : decide ((G : Int) < 0) = false := decide_eq_false (by omega)
  have t2 : decide ((1000 : Int) < (G : Int)) = false := decide_eq_false (by omega)
  have t1n : decide (1000 < G) = false := decide_eq_false (by omega)
  clear hl
  go_enter Tryd.func19, Tryd.ntmps19
  go_wp2
  go_loopw [6, 7] (fun v i wr => ∃ (k : Nat) (O : List WordL), k ≤ n ∧ i = .int .i64 (k : Int) ∧ Hid (zoneP G (l.take k) = O) ∧ wr.ownsRow w.heap.size 46 2 v (castW O).length ((castW O).flatMap wv) ∧ Below w.heap.size w wr) (fun _ i _ => n - (intOf i).toNat)
  case atStart => exact ⟨0, [], by omega, rfl, Lib.hid rfl, World.ownsRow_nil _ _ _ _, Below.refl _ _⟩
  case round =>
    obtain ⟨k, O, hk, rfl, HO, hown, hb⟩ := hrel
    have hbs := hb.size
    by_cases hlt : k < n
    · have i1 : decide ((k : Int) < (n : Int)) = true := decide_eq_true (by omega)
      have i1n : decide (k < n) = true := decide_eq_true hlt
      have kz : (k : Int) < (n : Int) := by omega
      obtain ⟨b0, o0, rfl, hB0, hc0⟩ := h.some_ (by omega)
      obtain ⟨x, hx⟩ : ∃ a, l[k]? = some a := ⟨_, List.getElem?_eq_getElem (by have := HL.out; omega)⟩
      have d0 : wr.cell? ⟨b0, o0 + k, none⟩ = some (.string (str x)) := (hb.cell (p := ⟨b0, o0 + k, none⟩) hB0).trans (hc0 k x hx)
      have HWx := Lib.hid (HW.out x (List.mem_of_getElem? hx))
      have HX : Hid (zoneP G (l.take (k + 1)) = O ++ (textsB x).zipIdx (beginOf G O)) := Lib.hid (by rw [take_next hx, zone_snoc, HO.out])
      obtain ⟨hB1, hB2⟩ := HB.out k hk
      rw [HO.out] at hB1 hB2
      have hB3 := (HB.out (k + 1) (by omega)).2
      rw [HX.out, List.length_append, List.length_zipIdx] at hB3
      have HWA := Lib.hid fun q hq => words_at x (q := q) hq
      have hcl := cast_len O
      have hwl : (castW (wordsP x)).length = (textsB x).length := by rw [cast_len]; unfold wordsP; rw [List.length_zipIdx]
      rw [hwl] at HWx
      have HBO := Lib.hid fun m (hm : O.length = m + 1) => begin_last G hm
      have HB0 : Hid (O = [] → beginOf G O = 0) := Lib.hid fun e => by rw [e]; rfl
      obtain ⟨B, hB⟩ : ∃ B, beginOf G O = B := ⟨_, rfl⟩
      obtain ⟨T, hT⟩ : ∃ T, textsB x = T := ⟨_, rfl⟩
      obtain ⟨L, hLw⟩ : ∃ L, castW (wordsP x) = L := ⟨_, rfl⟩
      obtain ⟨N, hN⟩ : ∃ N, T.length = N := ⟨_, rfl⟩
      rw [hB] at HX hB1 HBO HB0
      rw [hT] at HX HWA HWx hB3 hwl
      rw [hLw] at HWx HWA hwl
      rw [hN] at HWx HWA hB3 hwl
      have HN := Lib.hid hN
      have HWL := Lib.hid hwl
      clear hc0 hx hB hT hLw hN hwl
      go_wp2_with fail
      refine (HWx.out _).mono ?_
      rintro e w2 ⟨Aw, cw, rfl, howw, k2⟩
      have b2 := below_next hb k2
      have hown2 := own_keep_below hown k2
      have hvb : ∀ g, u6.ownBlock = some g → g < wr.heap.size := fun g hg => (hown.lt g hg).2
      clear hown
      have HSA := Lib.hid (SArr.of_own wv_len hown2)
      obtain ⟨A4, c4, h4⟩ := HSA.out.form
      obtain ⟨m0, hm0⟩ : ∃ m0, u6 = m0 := ⟨_, rfl⟩
      subst h4
      clear hm0
      rw [hcl] at hown2 HSA hvb ⊢
      obtain ⟨M, hM⟩ : ∃ M, O.length = M := ⟨_, rfl⟩
      rw [hM] at hown2 HSA HBO hB2 hB3 hvb hcl ⊢
      have HM := Lib.hid hM
      have HWK : Hid (0 < N → ∃ bx cs, Aw = some ⟨bx, 0, none⟩ ∧ Box w2 bx 46 cs ∧ (∀ i x, L[i]? = some x → cs[i * 2]? = some (.string (str x.1)) ∧ cs[i * 2 + 1]? = some (.int .i64 x.2)) ∧ ∀ g, (Value.slice A4 M c4).ownBlock = some g → g ≠ bx) := Lib.hid (fun h0 => by
        rw [← HWL.out] at howw h0
        obtain ⟨bx, cs, h1, h2, h3, h4, h5⟩ := own_words howw h0
        exact ⟨bx, cs, h1, h4, h5, fun g hg => by have := hvb g hg; omega⟩)
      have HC0 : Hid (w2.ownsRow w.heap.size 46 2 (.slice A4 M c4) (castW (O ++ (T.take 0).zipIdx B)).length ((castW (O ++ (T.take 0).zipIdx B)).flatMap wv)) := Lib.hid (by
        rw [show O ++ (T.take 0).zipIdx B = O by simp, hcl]
        exact hown2)
      have HCL : Hid (∀ q, q ≤ N → (castW (O ++ (T.take q).zipIdx B)).length = M + q) := Lib.hid (fun q hq => by
        rw [cast_len, List.length_append, List.length_zipIdx, List.length_take, HM.out, HN.out, Nat.min_eq_left hq])
      have HEnd : Hid (castW (O ++ (T.take N).zipIdx B) = castW (zoneP G (l.take (k + 1)))) := Lib.hid (by
        rw [List.take_of_length_le (by rw [HN.out]; exact Nat.le_refl _), HX.out])
      have hkn : k < n := hlt
      clear hown2 howw hvb hcl hM hlt
      by_cases hM0 : M = 0
      · have j1 : decide ((0 : Int) < (M : Int)) = false := decide_eq_false (by omega)
        have j1n : decide (0 < M) = false := decide_eq_false (by omega)
        have hB00 : B = 0 := HB0.out (List.length_eq_zero_iff.1 (HM.out.trans hM0))
        have HPE : Hid (∀ q : Nat, ((q : Nat) : Int) = ((B + q : Nat) : Int)) := Lib.hid (fun q => by rw [hB00, Nat.zero_add])
        have hB9 : B ≤ 1000000000 := hB1
        clear hM0 hB00
        go_wp2
        go_loopw [6, 10] (fun v i wr => ∃ q : Nat, q ≤ N ∧ i = .int .i64 (q : Int) ∧ wr.ownsRow w.heap.size 46 2 v (castW (O ++ (T.take q).zipIdx B)).length ((castW (O ++ (T.take q).zipIdx B)).flatMap wv) ∧ Hid (0 < N → ∃ bx cs, Aw = some ⟨bx, 0, none⟩ ∧ Box wr bx 46 cs ∧ (∀ i x, L[i]? = some x → cs[i * 2]? = some (.string (str x.1)) ∧ cs[i * 2 + 1]? = some (.int .i64 x.2)) ∧ ∀ g, v.ownBlock = some g → g ≠ bx) ∧ Below w.heap.size w wr) (fun _ i _ => N - (intOf i).toNat)
        case atStart => exact ⟨0, by omega, rfl, HC0.out, HWK, b2⟩
        case round =>
          obtain ⟨q, hq, rfl, hown2, HWd, hb3⟩ := hrel
          have hbs3 := hb3.size
          by_cases hql : q < N
          · have j2 : decide ((q : Int) < (N : Int)) = true := decide_eq_true (by omega)
            have j2n : decide (q < N) = true := decide_eq_true hql
            have qz : (q : Int) < (N : Int) := by omega
            obtain ⟨bx, cs, rfl, hbox, hcs, hvb⟩ := HWd.out (by omega)
            obtain ⟨y, hy1, hy2⟩ := HWA.out q hql
            have d2 : wr.cell? ⟨bx, q * 2, none⟩ = some (.string (str y)) := (hbox.cell _).trans (hcs q _ hy2).1
            have wz : IntKind.i64.wrap (q : Int) = (q : Int) := wraps_i64 _ (by omega) (by omega)
            have HS : Hid (castW (O ++ (T.take (q + 1)).zipIdx B) = castW (O ++ (T.take q).zipIdx B) ++ [(y, (q : Int))]) := Lib.hid (by
              rw [cast_app, idx_next B hy1, cast_app, List.append_assoc, HPE.out q])
            have hol := HCL.out q hq
            obtain ⟨O2, hO2⟩ : ∃ O2, castW (O ++ (T.take q).zipIdx B) = O2 := ⟨_, rfl⟩
            rw [hO2] at hown2 HS hol
            have HCS := Lib.hid hcs
            clear hcs hy1 hy2 hO2
            obtain ⟨A5, c5, h5⟩ := (SArr.of_own wv_len hown2).form
            rw [hol] at h5
            subst h5
            have hol2 : O2.length ≤ 1000000000000 - 1 := by omega
            have HOL := Lib.hid hol
            clear hol
            go_wp2_with (at_builtin; refine append_struct_where (val := wv) 23 46 (.agg #[.string ⟨#[]⟩, .int .i64 0]) 24 Tryd.underlying23 info_word rfl (by decide) (by decide) wv_len wv_one wr rfl (.tmp 47) (.tmp 57) rfl w.heap.size (.slice A5 (M + q) c5) O2 rfl hown2 (y, (q : Int)) #[.string (str y), .int .i64 ((q : Int))] rfl wr.heap.size rfl rfl hol2 hbs3 ?_; intro v2 w3 hown3 hg3 hv3)
            have hboxn : Box w3 bx 46 cs := hbox.grown hg3 (fun e => hvb bx e.symm rfl)
            have hbl := hbox.lt
            have HWn : Hid (0 < N → ∃ bx' cs, some (⟨bx, 0, none⟩ : Addr) = some ⟨bx', 0, none⟩ ∧ Box w3 bx' 46 cs ∧ (∀ i x, L[i]? = some x → cs[i * 2]? = some (.string (str x.1)) ∧ cs[i * 2 + 1]? = some (.int .i64 x.2)) ∧ ∀ g, v2.ownBlock = some g → g ≠ bx') := Lib.hid (fun _ => ⟨bx, cs, rfl, hboxn, HCS.out, fun g hg => by
              rcases hv3 g hg with h9 | h9
              · exact hvb g h9
              · omega⟩)
            have hb4 : Below w.heap.size w w3 := below_grown hb3 hg3 (Nat.le_refl _) fun g hg => (hown2.lt g hg).1
            rw [← HS.out] at hown3
            clear hown2 hvb hv3 hg3 hboxn HWd
            go_wp2
            go_roundw
            case rel => exact ⟨q + 1, by omega, by go_num, hown3, HWn, hb4⟩
            case measure => simp [intOf]; omega
          · obtain rfl : q = N := by omega
            have j2 : decide ((q : Int) < (q : Int)) = false := by simp
            have j2n : decide (q < q) = false := by simp
            rw [HEnd.out] at hown2
            obtain ⟨Z, hZ⟩ : ∃ Z, zoneP G (l.take (k + 1)) = Z := ⟨_, rfl⟩
            rw [hZ] at hown2
            have HZ := Lib.hid hZ
            clear hZ HWd
            go_wp2
            go_roundw
            case rel => exact ⟨k + 1, Z, by omega, by go_num, HZ, hown2, hb3⟩
            case measure => simp [intOf]; omega
      · obtain ⟨m, hm⟩ : ∃ m, M = m + 1 := ⟨M - 1, by omega⟩
        have j1 : decide ((0 : Int) < (M : Int)) = true := decide_eq_true (by omega)
        have j1n : decide (0 < M) = true := decide_eq_true (by omega)
        obtain ⟨xl, p, hp1, hp2⟩ := HBO.out m hm
        obtain ⟨bo, oo, rfl, _, hco⟩ := words_cells HSA.out (by omega)
        have d1 : w2.cell? ⟨bo, oo + m * 2 + 1, none⟩ = some (.int .i64 (p : Int)) := (hco m _ hp1).2
        have ea : (M : Int) - 1 = (m : Int) := by omega
        have em : IntKind.i64.wrap (m : Int) = (m : Int) := wraps_i64 _ (by omega) (by omega)
        have mz : (m : Int) < (M : Int) := by omega
        have e1 : IntKind.i64.wrap ((p : Int) + 1) = (p : Int) + 1 := wraps_i64 _ (by omega) (by omega)
        have e2 : IntKind.i64.wrap ((p : Int) + 1 + (G : Int)) = (p : Int) + 1 + (G : Int) := wraps_i64 _ (by omega) (by omega)
        have hpB : B = p + 1 + G := hp2
        have HPE : Hid (∀ q : Nat, (p : Int) + 1 + (G : Int) + (q : Int) = ((B + q : Nat) : Int)) := Lib.hid (fun q => by omega)
        have hB9 : p + 1 + G ≤ 1000000000 := by omega
        clear hm hM0 hp1 hp2 hco hpB
        go_wp2
        go_loopw [6, 10] (fun v i wr => ∃ q : Nat, q ≤ N ∧ i = .int .i64 (q : Int) ∧ wr.ownsRow w.heap.size 46 2 v (castW (O ++ (T.take q).zipIdx B)).length ((castW (O ++ (T.take q).zipIdx B)).flatMap wv) ∧ Hid (0 < N → ∃ bx cs, Aw = some ⟨bx, 0, none⟩ ∧ Box wr bx 46 cs ∧ (∀ i x, L[i]? = some x → cs[i * 2]? = some (.string (str x.1)) ∧ cs[i * 2 + 1]? = some (.int .i64 x.2)) ∧ ∀ g, v.ownBlock = some g → g ≠ bx) ∧ Below w.heap.size w wr) (fun _ i _ => N - (intOf i).toNat)
        case atStart => exact ⟨0, by omega, rfl, HC0.out, HWK, b2⟩
        case round =>
          obtain ⟨q, hq, rfl, hown2, HWd, hb3⟩ := hrel
          have hbs3 := hb3.size
          by_cases hql : q < N
          · have j2 : decide ((q : Int) < (N : Int)) = true := decide_eq_true (by omega)
            have j2n : decide (q < N) = true := decide_eq_true hql
            have qz : (q : Int) < (N : Int) := by omega
            obtain ⟨bx, cs, rfl, hbox, hcs, hvb⟩ := HWd.out (by omega)
            obtain ⟨y, hy1, hy2⟩ := HWA.out q hql
            have d2 : wr.cell? ⟨bx, q * 2, none⟩ = some (.string (str y)) := (hbox.cell _).trans (hcs q _ hy2).1
            have wz : IntKind.i64.wrap ((p : Int) + 1 + (G : Int) + (q : Int)) = (p : Int) + 1 + (G : Int) + (q : Int) := wraps_i64 _ (by omega) (by omega)
            have HS : Hid (castW (O ++ (T.take (q + 1)).zipIdx B) = castW (O ++ (T.take q).zipIdx B) ++ [(y, (p : Int) + 1 + (G : Int) + (q : Int))]) := Lib.hid (by
              rw [cast_app, idx_next B hy1, cast_app, List.append_assoc, HPE.out q])
            have hol := HCL.out q hq
            obtain ⟨O2, hO2⟩ : ∃ O2, castW (O ++ (T.take q).zipIdx B) = O2 := ⟨_, rfl⟩
            rw [hO2] at hown2 HS hol
            have HCS := Lib.hid hcs
            clear hcs hy1 hy2 hO2
            obtain ⟨A5, c5, h5⟩ := (SArr.of_own wv_len hown2).form
            rw [hol] at h5
            subst h5
            have hol2 : O2.length ≤ 1000000000000 - 1 := by omega
            have HOL := Lib.hid hol
            clear hol
            go_wp2_with (at_builtin; refine append_struct_where (val := wv) 23 46 (.agg #[.string ⟨#[]⟩, .int .i64 0]) 24 Tryd.underlying23 info_word rfl (by decide) (by decide) wv_len wv_one wr rfl (.tmp 47) (.tmp 57) rfl w.heap.size (.slice A5 (M + q) c5) O2 rfl hown2 (y, (p : Int) + 1 + (G : Int) + (q : Int)) #[.string (str y), .int .i64 ((p : Int) + 1 + (G : Int) + (q : Int))] rfl wr.heap.size rfl rfl hol2 hbs3 ?_; intro v2 w3 hown3 hg3 hv3)
            have hboxn : Box w3 bx 46 cs := hbox.grown hg3 (fun e => hvb bx e.symm rfl)
            have hbl := hbox.lt
            have HWn : Hid (0 < N → ∃ bx' cs, some (⟨bx, 0, none⟩ : Addr) = some ⟨bx', 0, none⟩ ∧ Box w3 bx' 46 cs ∧ (∀ i x, L[i]? = some x → cs[i * 2]? = some (.string (str x.1)) ∧ cs[i * 2 + 1]? = some (.int .i64 x.2)) ∧ ∀ g, v2.ownBlock = some g → g ≠ bx') := Lib.hid (fun _ => ⟨bx, cs, rfl, hboxn, HCS.out, fun g hg => by
              rcases hv3 g hg with h9 | h9
              · exact hvb g h9
              · omega⟩)
            have hb4 : Below w.heap.size w w3 := below_grown hb3 hg3 (Nat.le_refl _) fun g hg => (hown2.lt g hg).1
            rw [← HS.out] at hown3
            clear hown2 hvb hv3 hg3 hboxn HWd
            go_wp2
            go_roundw
            case rel => exact ⟨q + 1, by omega, by go_num, hown3, HWn, hb4⟩
            case measure => simp [intOf]; omega
          · obtain rfl : q = N := by omega
            have j2 : decide ((q : Int) < (q : Int)) = false := by simp
            have j2n : decide (q < q) = false := by simp
            rw [HEnd.out] at hown2
            obtain ⟨Z, hZ⟩ : ∃ Z, zoneP G (l.take (k + 1)) = Z := ⟨_, rfl⟩
            rw [hZ] at hown2
            have HZ := Lib.hid hZ
            clear hZ HWd
            go_wp2
            go_roundw
            case rel => exact ⟨k + 1, Z, by omega, by go_num, HZ, hown2, hb3⟩
            case measure => simp [intOf]; omega
    · obtain rfl : k = n := by omega
      have i1 : decide ((k : Int) < (k : Int)) = false := by simp
      have i1n : decide (k < k) = false := by simp
      have HO2 := HO.out
      rw [List.take_of_length_le (by rw [HL.out]; exact Nat.le_refl _)] at HO2
      rw [← HO2] at hown
      have hA := SArr.of_own wv_len hown
      obtain ⟨A4, c4, h4⟩ := hA.form
      subst h4
      have HA := Lib.hid hA
      clear hA hown HO2
      go_wp2
      go_ret2
      exact ⟨_, _, _, rfl, HA.out, hb⟩

end Go.Proofs.YtbnchnbblchmnaaDoor

namespace Go.Proofs.YtbnchnbblchmnaaDoor

theorem enc_head_len {m : List Nat} (h : m ≠ []) : 0 < (encL m).length := by
  cases m with
  | nil => exact absurd rfl h
  | cons c m =>
    have := (encC_len c).1
    rw [encL, List.length_append]
    omega
theorem blank_none {t : List UInt8} (h : t.head? ≠ some 32) : blankN t = 0 := by
  have := blank_rep 0 h
  simpa using this
theorem art_sort {lang s : List UInt8} (h : skipN lang s ≠ 0) (h9 : countR (s.take (skipN lang s)) ≤ 9) : sortA s (countR (s.take (skipN lang s)) : Int) = stripN lang s := by
  obtain ⟨p, m, a, h1, h2, h3, h4, h5, h6, h7, -⟩ := skip_split h
  unfold stripN
  rw [← h4] at h9 ⊢
  have htk : s.take (encL p).length = encL p := by
    conv => lhs; rw [h2]
    exact List.take_left
  have hdp : s.drop (encL p).length = encL m := by
    conv => lhs; rw [h2]
    exact List.drop_left
  have hct : countR (s.take (encL p).length) = p.length := by rw [htk, countR_some (dec_enc p h3)]
  rw [hct] at h9 ⊢
  have hp := List.length_pos_iff.2 h5
  have hm := List.length_pos_iff.2 h6
  have hcut : cutR s (p.length : Int) = encL p := by
    rw [cutR_some h1 (by omega)]
    simp
  have hsp : spN s (encL p).length = (encL p).length := by unfold spN; rw [hdp, blank_none h7]; rfl
  have hlen : (encL p).length < s.length := by
    rw [h2, List.length_append]
    have := enc_head_len h6
    omega
  unfold sortA
  rw [h1]
  simp only
  rw [if_neg (by rw [List.length_append]; omega), hcut, hsp, if_neg (by omega)]

/-- A string without the blanks at its end. -/
def trimB (s : List UInt8) : List UInt8 := (s.reverse.dropWhile (· == 32)).reverse
theorem trim_same {s : List UInt8} (h : s.getLast? ≠ some 32) : trimB s = s := by
  unfold trimB
  rw [← List.head?_reverse] at h
  cases hr : s.reverse with
  | nil => rw [List.reverse_eq_nil_iff.1 hr]; rfl
  | cons b t =>
    rw [hr] at h
    have hb : (b == 32) = false := by
      simp only [List.head?_cons, ne_eq, Option.some.injEq] at h
      simpa using h
    rw [List.dropWhile_cons, hb]
    simp only [Bool.false_eq_true, if_false]
    rw [← hr, List.reverse_reverse]
theorem trim_rep (s : List UInt8) (k : Nat) : trimB (s ++ List.replicate k 32) = trimB s := by
  unfold trimB
  rw [List.reverse_append, List.reverse_replicate]
  congr 1
  induction k with
  | zero => rfl
  | succ k ih => rw [List.replicate_succ, List.cons_append, List.dropWhile_cons]; simp only [beq_self_eq_true, if_true]; exact ih
theorem last_enc {p : List Nat} (hp : ∀ c ∈ p, okC c) (h : (encL p).getLast? = some 32) : ∃ q, p = q ++ [32] := by
  rcases List.eq_nil_or_concat p with e | ⟨q, c, e⟩
  · subst e; simp [encL] at h
  · rw [List.concat_eq_append] at e
    subst e
    rw [encL_app] at h
    have h1 : encL [c] = encC c := by simp [encL]
    rw [h1, List.getLast?_append] at h
    cases hx : (encC c).getLast? with
    | none => exact absurd (List.getLast?_eq_none_iff.1 hx) (encC_ne c)
    | some x =>
      rw [hx] at h
      have h2 : x = 32 := by simpa using h
      have hm := List.mem_of_getLast? hx
      rw [h2] at hm
      have hc := (encC_ascii (b := 32) (by decide) (hp c (by simp)).1).1 hm
      exact ⟨q, by rw [hc]⟩
theorem fold_enc {p : List Nat} (hp : ∀ c ∈ p, okC c) : nFold (encL p) = encL (foldL (dcF p)) := by
  unfold nFold nFL
  rw [nL_enc hp]
theorem fold_last (q : List Nat) : foldL (dcF (q ++ [32])) = foldL (dcF q) ++ [32] := by
  have hb := blank_facts
  rw [dcF_join q [32] (fun c hc => by simp at hc; subst hc; exact hb.2.2.1), dcF_one, hb.2.1]
  unfold foldL
  rw [List.flatMap_append]
  simp [hb.2.2.2.1]
theorem arts_last : ∀ {lang a : List UInt8}, a ∈ artsOf lang → a.getLast? ≠ some 32 := by
  intro lang a ha
  have hall : (artT.all fun l => l.all fun a => !(a.getLast? == some 32)) = true := by decide +kernel
  unfold artsOf at ha
  cases hf : (langT.zip artT).find? fun p => p.1 == lang with
  | none => rw [hf] at ha; cases ha
  | some p =>
    rw [hf] at ha
    have hp := (List.of_mem_zip (List.mem_of_find?_eq_some hf)).2
    have h1 := List.all_eq_true.1 (List.all_eq_true.1 hall _ hp) a ha
    intro e
    rw [e] at h1
    cases h1
theorem art_rest {lang s : List UInt8} (h : skipN lang s ≠ 0) : skipN lang s < s.length ∧ s[skipN lang s]? ≠ some 32 ∧ nFold (trimB (s.take (skipN lang s))) ∈ artsOf lang ∧ ∃ t, invN lang s = s.drop (skipN lang s) ++ [44, 32] ++ t := by
  obtain ⟨p, m, a, h1, h2, h3, h4, h5, h6, h7, h8, hcase⟩ := skip_split h
  have htk : s.take (encL p).length = encL p := by
    conv => lhs; rw [h2]
    exact List.take_left
  have hinv : ∃ t, invN lang s = s.drop (skipN lang s) ++ [44, 32] ++ t := ⟨s.take (beginN lang s).1, by have h' : ¬ (beginN lang s).2 = 0 := h; unfold invN; rw [if_neg h']; rfl⟩
  rw [← h4] at hinv ⊢
  refine ⟨?_, ?_, ?_, hinv⟩
  · rw [h2, List.length_append]
    have := enc_head_len h6
    omega
  · intro e
    refine h7 ?_
    rw [h2, List.getElem?_append_right (Nat.le_refl _), Nat.sub_self, ← List.head?_eq_getElem?] at e
    exact e
  · rw [htk]
    rcases hcase with ⟨_, g2, _⟩ | ⟨q, k, e, hk, g2, g3, _⟩
    · have hl : (encL p).getLast? ≠ some 32 := fun e => by
        obtain ⟨q, rfl⟩ := last_enc h3 e
        rw [fold_enc h3, fold_last, encL_app] at g2
        refine arts_last h8 ?_
        rw [← g2]
        simp [encL, encC]
      rw [trim_same hl, g2]
      exact h8
    · subst e
      have hq : ∀ c ∈ q, okC c := fun c hc => h3 c (List.mem_append_left _ hc)
      rw [encL_app, rep_enc, trim_rep, trim_same, g2]
      · exact h8
      · intro e
        obtain ⟨q', rfl⟩ := last_enc hq e
        exact g3 (by simp)

end Go.Proofs.YtbnchnbblchmnaaDoor

namespace Go.Proofs.YtbnchnbblchmnaaDoor

/-- A character whose folded form holds an apostrophe is one, or the wide one. -/
def apoC (c : Nat) : Bool := !(((wholeR c).flatMap low1).contains 39) || Nat.beq c 39 || Nat.beq c 65287
theorem chars_apo : (charL.all apoC) = true := by kernel_rfl
theorem apo_char {c : Nat} (h : hasN c = true) (hm : 39 ∈ (wholeR c).flatMap low1) : c = 39 ∨ c = 65287 := by
  have h1 := List.all_eq_true.1 chars_apo c ((char_mem c).2 h)
  unfold apoC at h1
  rw [List.contains_iff_mem.2 hm] at h1
  simpa using h1
theorem fold_mem39 {p : List Nat} (hp : ∀ c ∈ p, hasN c = true) (h : 39 ∈ foldL (dcF p)) : ∃ c ∈ p, c = 39 ∨ c = 65287 := by
  unfold foldL at h
  obtain ⟨y, hy, h1⟩ := List.mem_flatMap.1 h
  obtain ⟨c, hc, h2⟩ := mem_dcF.1 hy
  exact ⟨c, hc, apo_char (hp c hc) (List.mem_flatMap.2 ⟨y, h2, h1⟩)⟩
theorem fold_ok {p : List Nat} (hp : ∀ c ∈ p, okC c) : ∀ y ∈ foldL (dcF p), y < 65536 := by
  have h := nFL_dec (encL p)
  unfold nFL at h
  rw [nL_enc hp] at h
  exact fun y hy => (ok_of_has (h.1 y hy)).1
theorem apo_mem {a : List UInt8} (h : apoB a = true) : (39 : UInt8) ∈ a := by
  unfold apoB at h
  exact List.mem_of_getLast? (by simpa using h)
theorem art_others {lang s : List UInt8} (h : artsOf lang = [] ∨ (32 ∉ s ∧ 39 ∉ s ∧ ¬ ∃ a b, s = a ++ [239, 188, 135] ++ b)) : skipN lang s = 0 ∧ stripN lang s = s ∧ invN lang s = s := by
  have h0 : skipN lang s = 0 := by
    by_cases hz : skipN lang s = 0
    · exact hz
    · exfalso
      obtain ⟨p, m, a, h1, h2, h3, h4, h5, h6, h7, h8, hcase⟩ := skip_split hz
      rcases h with h | ⟨n1, n2, n3⟩
      · rw [h] at h8; cases h8
      · rcases hcase with ⟨g1, g2, _⟩ | ⟨q, k, e, hk, _⟩
        · have hm := apo_mem g1
          rw [← g2, fold_enc h3, mem_encL] at hm
          obtain ⟨y, hy, h39⟩ := hm
          have hyy := (encC_ascii (b := 39) (by decide) (fold_ok h3 y hy)).1 h39
          rw [hyy] at hy
          have hhas : ∀ c ∈ p, hasN c = true := fun c hc => by
            have h9 := h3 c hc
            have hk9 := h9.2
            rw [← hasN_eq]
            show (kindR (c : Int) != 0) = true
            simpa using hk9
          obtain ⟨c, hc, hcc⟩ := fold_mem39 hhas hy
          rcases hcc with rfl | rfl
          · refine n2 ?_
            rw [h2]
            exact List.mem_append_left _ (mem_encL.2 ⟨39, hc, (encC_ascii (b := 39) (by decide) (by decide)).2 rfl⟩)
          · refine n3 ?_
            obtain ⟨p1, p2, rfl⟩ := List.append_of_mem hc
            refine ⟨encL p1, encL p2 ++ encL m, ?_⟩
            rw [h2, encL_app, encL, show encC 65287 = [239, 188, 135] by decide]
            simp
        · refine n1 ?_
          subst e
          rw [h2, encL_app, rep_enc]
          refine List.mem_append_left _ (List.mem_append_right _ ?_)
          exact List.mem_replicate.2 ⟨by omega, rfl⟩
  refine ⟨h0, ?_, ?_⟩
  · unfold stripN; rw [h0]; rfl
  · have h0' : (beginN lang s).2 = 0 := h0
    unfold invN
    rw [if_pos h0']

end Go.Proofs.YtbnchnbblchmnaaDoor
