/-
  Collecting what an iterator gives: slices.Collect over words; the program's Words, Zone.
  The program's Texts.
-/
import Derived.Test.YtbnchnbblchmnaaGreatDoorTkEach
import Derived.Test.YtbnchnbblchmnaaGreatDoorPkAY
import Derived.Test.YtbnchnbblchmnaaGreatDoorPkAZ
import Derived.Maps.OwnIn
namespace Go.Proofs.YtbnchnbblchmnaaGreatDoor
open Go.RowKit Go.Shelf Go.Lib
attribute [local go_sem] Oper.semAt_some

/-- append(s, y) of one element inside a fence; the new row is the old one, or a new block. -/
theorem append_struct_in {F : Fence} {n : Nat} {P : Program} {α : Type} {val : α → List Value} {sz : Nat} (t e : TypeId) (z : Value) (bytes : Nat) (ht : P.underlying t = some (.slice e)) (info : (P.info? e).map (fun i => (i.zero, i.size, i.bytes)) = some (some z, sz, bytes))
    (hzs : z.cells.size = sz) (hs0 : 0 < sz) (hbytes : bytes ≤ 100) (hv : ∀ x, (val x).length = sz) (hval : ∀ x, ∀ u ∈ val x, u.oneCell' = true)
    {ops : Array Oper} {rest : List Oper} {o : Oper} {a : Act} {Q : Exit → Act → World → Prop} (w : World) (hgd : o.guard = none) (s x : Operand)
    (ho : o.op = .call { callee := .builtin .append, args := #[s, x], argTypes := #[t, t] })
    (base : Nat) (v : Value) (xs : List α) (hs : a.eval s = v) (hown : w.ownsRow base e sz v xs.length (xs.flatMap val)) (y : α) (u : Array Value) (hu : u = (val y).toArray) (N : Nat) (hN : w.heap.size = N)
    (hx : a.eval x = .slice (some ⟨N, 0, none⟩) 1 1) (hlen : xs.length ≤ 1000000000000 - 1) (hbase : base ≤ w.heap.size)
    (h : ∀ v' w', w'.ownsRow base e sz v' (xs ++ [y]).length ((xs ++ [y]).flatMap val) → w.grownBy w' v.ownBlock → (v'.ownBlock = v.ownBlock ∨ ∃ g, v'.ownBlock = some g ∧ w.heap.size ≤ g) → wpListIn F n P ops Q rest (a.put o.dst v') w') : wpListIn F n P ops Q (o :: rest) a (w.alloc (.cells u e)) := by
  obtain ⟨i0, hi, hz0, hz1, hz2⟩ := info_parts info
  subst hu hN
  have hown1 : (w.alloc (.cells (val y).toArray e)).ownsRow base e sz v xs.length (xs.flatMap val) := own_keep_below hown ((Below.refl _ _).alloc (Nat.le_refl _) _)
  have hcell : ∀ j u, (val y)[j]? = some u → (w.alloc (.cells (val y).toArray e)).cell? ((⟨w.heap.size, 0, none⟩ : Addr).add j) = some u := by
    intro j u hu
    rw [plain_add, (Box.made w e (val y).toArray).cell]
    simpa using hu
  refine wpListIn_append_own_at (w := w.alloc (.cells (val y).toArray e)) hgd s x t ho base e i0 z sz bytes ht hi hz0 hz1 hz2 hzs hs0 v xs.length (xs.flatMap val) hs hown1 ⟨w.heap.size, 0, none⟩ 1 1 (val y) hx (by rw [hv, Nat.one_mul]) hcell (hval y)
    (by unfold maxLen; omega) (by have := Nat.mul_le_mul (show xs.length + 1 ≤ 1000000000000 by omega) hbytes; omega) (by simp; omega) ?_
  intro v' w' h1 h2 _ h4
  refine h v' w' (by rw [List.length_append, List.flatMap_append]; simpa using h1) (grown_trans (grown_of_below _ ((Below.refl _ _).alloc (Nat.le_refl _) _)) h2) ?_
  rcases h4 with h5 | h5
  · exact .inl h5
  · exact .inr ⟨_, h5, by simp⟩

/-- Between two rounds: the variable in block Bx holds a slice of the call's own with what has come. -/
def CollI {α : Type} (w : World) (Bx lo : Nat) (ts e : TypeId) (sz : Nat) (val : α → List Value) (g : Option Nat) (pre : List α) (W : World) : Prop :=
  ∃ v, Boxed W Bx ts v ∧ W.ownsRow lo e sz v pre.length (pre.flatMap val) ∧ g = v.ownBlock ∧ Below w.heap.size w W ∧ lo ≤ W.heap.size

section
variable {α : Type} {w W : World} {Bx lo sz : Nat} {ts e : TypeId} {val : α → List Value} {g : Option Nat} {pre : List α}
theorem CollI.cells (h : CollI w Bx lo ts e sz val g pre W) : ∀ k, g = some k → ∃ o, W.heap[k]? = some o ∧ o.isCells = true := by
  obtain ⟨v, _, hr, hg, _⟩ := h
  intro k ek
  rw [hg] at ek
  rcases hr.2 with ⟨rfl, _⟩ | ⟨g', cap, cur, rfl, _, hgb, _⟩
  · cases ek
  · have : g' = k := by simpa [Value.ownBlock] using ek
    subst this
    exact ⟨_, hgb, rfl⟩
theorem CollI.least (h : CollI w Bx lo ts e sz val g pre W) : ∀ k, g = some k → lo ≤ k := by
  obtain ⟨v, _, hr, hg, _⟩ := h
  intro k ek
  exact (hr.lt k (hg.symm.trans ek)).1
theorem CollI.apart {A B : World} (hB : w.heap.size ≤ Bx) (hlo : Bx < lo) (h : CollI w Bx lo ts e sz val g pre A) (ha : Apart lo g A B) : CollI w Bx lo ts e sz val g pre B := by
  obtain ⟨v, hb, hr, hg, hw, hz⟩ := h
  refine ⟨v, (ha.block Bx hb.lt (.inl (by omega))).trans hb, ⟨hr.1, ?_⟩, hg, ha.below hw (by omega) (Nat.le_refl _), Nat.le_trans hz ha.size⟩
  rcases hr.2 with h | ⟨g', cap, cur, h1, h2, h3, h4⟩
  · exact .inl h
  · refine .inr ⟨g', cap, cur, h1, h2, (ha.block g' (Array.getElem?_eq_some_iff.1 h3).1 (.inr (by rw [hg, h1]; rfl))).trans h3, h4⟩
theorem CollI.start (hb : Boxed W Bx ts (.slice none 0 0)) (hw : Below w.heap.size w W) (hz : lo ≤ W.heap.size) : CollI w Bx lo ts e sz val none [] W :=
  ⟨_, hb, ⟨by simp, .inl ⟨rfl, rfl⟩⟩, rfl, hw, hz⟩
/-- Behind the append and the store. -/
theorem CollI.stored {v v' : Value} {w1 : World} {x : α} {U : Nat → Prop} (hB : w.heap.size ≤ Bx) (hlo : Bx < lo) (hte : ts ≠ e) (hbox : Boxed W Bx ts v) (hrow : W.ownsRow lo e sz v pre.length (pre.flatMap val)) (hg : g = v.ownBlock) (hw : Below w.heap.size w W) (hz : lo ≤ W.heap.size)
    (h1 : w1.ownsRow lo e sz v' (pre ++ [x]).length ((pre ++ [x]).flatMap val)) (h2 : W.grownBy w1 v.ownBlock) (h3 : v'.ownBlock = v.ownBlock ∨ ∃ g, v'.ownBlock = some g ∧ W.heap.size ≤ g) (hU : ∀ k, U k → k < lo ∧ k ≠ Bx) :
    Boxed w1 Bx ts v ∧ CollI w Bx lo ts e sz val v'.ownBlock (pre ++ [x]) (w1.setCell ⟨Bx, 0, none⟩ v') ∧ RoundC lo U g v'.ownBlock W (w1.setCell ⟨Bx, 0, none⟩ v') := by
  have hb1 : Boxed w1 Bx ts v := hbox.kept h2 (hbox.not_row hte hrow)
  have hsz := (grownBy_setCell' w1 Bx v').size
  have hgx : ∀ k, v.ownBlock = some k → lo ≤ k := fun k ek => (hrow.lt k ek).1
  refine ⟨hb1, ⟨v', hb1.set v', h1.kept (grownBy_setCell' w1 Bx v') (.inr fun e2 => ?_), rfl, ?_, Nat.le_trans hz (Nat.le_trans h2.size hsz)⟩, ⟨?_, Nat.le_trans h2.size hsz, fun k hk hUk => ?_⟩⟩
  · have := (h1.lt Bx e2).1
    omega
  · refine (hw.grown h2 hw.size fun k ek => by have := hgx k ek; omega).grown (grownBy_setCell' w1 Bx v') (Nat.le_trans hw.size h2.size) fun k ek => by cases ek; exact hB
  · rw [hg]; exact h3
  · have hkB : k ≠ Bx ∧ v.ownBlock ≠ some k := by
      rcases hUk with h | h
      · have h5 := hU k h
        exact ⟨h5.2, fun e2 => by have := hgx k e2; omega⟩
      · exact ⟨by omega, fun e2 => h.2 (hg.trans e2)⟩
    exact (Below.heap_setCell w1 ⟨Bx, 0, none⟩ v' k (by show k ≠ Bx; exact hkB.1)).trans (h2.block k hk (fun e2 => hkB.2 e2.symm))
end

/-- A word's two cells. -/
def wvN (x : WordL) : List Value := [.string (str x.1), .int .i64 (x.2 : Int)]
theorem wvN_len (x : WordL) : (wvN x).length = 2 := rfl
theorem wvN_one (x : WordL) : ∀ u ∈ wvN x, u.oneCell' = true := by
  intro u hu
  unfold wvN at hu
  simp only [List.mem_cons, List.not_mem_nil, or_false] at hu
  rcases hu with rfl | rfl <;> rfl
theorem word_ne : (22 : TypeId) ≠ 32 := by decide

set_option maxRecDepth 100000 in
set_option maxHeartbeats 4000000 in
theorem appendSeq_any (n : Nat) (hn : 2 ≤ n) (gf : Nat) (lb : Array Value) (eg : ∀ args w, (callFunc gf args).run Tryz.prog w = .ok (.enter gf args) w) (Z : List WordL) (hZ : Z.length ≤ 1000000000) (w : World)
    (hseq : ∀ W, W = w.alloc (.cells #[.slice none 0 0] 22) → SeqC Fence.wide (n - 1) Tryz.prog gf lb (fun x : WordL => #[wvE x]) (fun k => k < W.heap.size ∧ k ≠ w.heap.size) (fun xs => xs = Z) Z.length W) :
    CallsIn Fence.wide n Tryz.prog 63 #[.slice none 0 0, .func (.func gf) #[] lb] w fun e w' => ∃ v, e = .returned v ∧ w'.ownsRow (w.heap.size + 1) 32 2 v Z.length (Z.flatMap wvN) ∧ Below w.heap.size w w' := by
  refine callsIn_of_wp_marks Tryz.func63 rfl trivial ?_ rfl
  simp only [Tryz.ntmps63, List.size_toArray, List.length_cons, List.length_nil, Nat.reduceAdd, Nat.reduceSub, Array.replicate_succ, Array.replicate_zero, List.push_toArray, List.append_toArray, List.nil_append, List.cons_append]
  gi_wp2
  have hst : CollI w w.heap.size (w.heap.size + 1) 22 32 2 wvN none [] (w.alloc (.cells #[.slice none 0 0] 22)) := CollI.start (Boxed.new _ _ _) ((Below.refl _ w).alloc (Nat.le_refl _) _) (by simp)
  have hs := hseq _ rfl
  obtain ⟨W0, hW0⟩ : ∃ W0, w.alloc (.cells #[.slice none 0 0] 22) = W0 := ⟨_, rfl⟩
  have hsz : W0.heap.size = w.heap.size + 1 := by rw [← hW0]; simp
  rw [hW0] at hst hs ⊢
  clear hW0 hseq
  have hsz' := hsz.symm
  refine wpIn_rangeFunc_sep rfl (by omega) rfl trivial eg hs (Below.refl _ _) (fun _ => rfl) (CollI w w.heap.size (w.heap.size + 1) 22 32 2 wvN)
    (fun g s A h => h.cells) (fun g s A B h ha => h.apart (Nat.le_refl _) (Nat.lt_succ_self _) (by rw [hsz] at ha; exact ha)) none hst
    (fun x a' W => ∃ B, W.heap[B]? = some (.cells #[.string (str x.1), .int .i64 (x.2 : Int)] 32 (0, 0)) ∧ a' = { tmps := #[.slice none 0 0, .func (.func gf) #[] lb, .pointer (some ⟨w.heap.size, 0, none⟩), undef, .slice none 0 0, .pointer (some ⟨B, 0, none⟩), .func (.func gf) #[] lb, wvE x, undef, undef, undef, undef, undef], defers := [] })
    (fun x a' A k o o' hx hk ho => by
      obtain ⟨B, h1, h2⟩ := hx
      exact ⟨B, (World.putObj_heap_other (fun e => by rw [e, hk] at h1; cases h1; cases ho)).trans h1, h2⟩) ?assign ?body ?done
  case assign =>
    intro l go pre x W K hi hK
    unfold wvE
    gi_wp2
    have hb := (Below.refl W.heap.size W).alloc (Nat.le_refl _) (.cells #[.string (str x.1), .int .i64 (x.2 : Int)] 32)
    exact hK _ _ (RoundC.of_below hb) (hi.apart (Nat.le_refl _) (Nat.lt_succ_self _) (Apart.of_below hb)) ⟨W.heap.size, World.alloc_heap_new W _, rfl⟩
  case body =>
    rintro l go pre x a' W ⟨v, hbox, hrow, hg, hw, hz⟩ ⟨B, hB, rfl⟩ hlt
    have hc := hbox.cell
    have d0 : W.cell? ⟨B, 0, none⟩ = some (.string (str x.1)) := by simp [World.cell?, hB]
    have d1 : W.cell? ⟨B, 1, none⟩ = some (.int .i64 (x.2 : Int)) := by simp [World.cell?, hB]
    have hws := hw.size
    have hbw := hbox.lt
    have HB := Lib.hid hbox
    have HR := Lib.hid hrow
    have HG := Lib.hid hg
    have HW := Lib.hid hw
    clear hB hbox hrow hg hw hs
    gi_wp2_with (gi_at_builtin; refine append_struct_in (val := wvN) 22 32 (.agg #[.string ⟨#[]⟩, .int .i64 0]) 24 Tryz.underlying22 info_word rfl (by decide) (by decide) wvN_len wvN_one W rfl (.tmp 8) (.tmp 10) rfl (w.heap.size + 1) v pre rfl HR.out x #[.string (str x.1), .int .i64 (x.2 : Int)] rfl W.heap.size rfl rfl (by omega) (by omega) ?_; intro v' w1 hown' hgrow hwh; obtain ⟨hb1, hC, hRd⟩ := CollI.stored (U := fun k => k < W0.heap.size ∧ k ≠ w.heap.size) (Nat.le_refl _) (Nat.lt_succ_self _) word_ne HB.out HR.out HG.out HW.out hz hown' hgrow hwh (fun k hk => ⟨by omega, hk.2⟩); have hc1 := hb1.cell; have hf1 := hb1.frozen; rw [List.length_append, List.length_singleton] at hown'; obtain ⟨g', cap, rfl⟩ := ownsRow_succ hown'; have HC := Lib.hid hC; have HRd := Lib.hid hRd; clear hown' hgrow hwh hC hRd hb1)
    exact ⟨_, HC.out, by have h5 := HRd.out; rw [hsz] at h5; rw [hsz]; exact h5⟩
  case done =>
    rintro D xs go W hD rfl ⟨v, hbox, hrow, hg, hw, hz⟩ hDef
    have hc := hbox.cell
    have hbl : v.ownBlock = none ∨ v.ownBlock ≠ some D := by
      cases hv : v.ownBlock with
      | none => exact .inl rfl
      | some k =>
        refine .inr fun e => ?_
        obtain ⟨o, h1, h2⟩ := CollI.cells (w := w) (Bx := w.heap.size) (lo := w.heap.size + 1) (val := wvN) (g := go) (pre := xs) ⟨v, hbox, hrow, hg, hw, hz⟩ D (by rw [hg, hv]; exact e)
        rw [hDef] at h1; cases h1; cases h2
    have HR := Lib.hid hrow
    have HW := Lib.hid hw
    clear hrow hw hbox hs hg
    gi_wp2
    refine ⟨by simp, .inl ⟨_, _, rfl, run_takeDeferred hDef, ?_⟩⟩
    exact ⟨_, results_tmp rfl _ _ _, v, rfl, HR.out.kept (grownBy_putObj' W D _) hbl, HW.out.grown (grownBy_putObj' W D _) HW.out.size (fun k e => by cases e; omega)⟩

theorem zone_len (G : Nat) (ls : List (List UInt8)) : (∀ s ∈ ls, s.length ≤ 5000) → (zoneP G ls).length ≤ ls.length * 240001 := by
  refine list_snoc (fun l => (∀ s ∈ l, s.length ≤ 5000) → (zoneP G l).length ≤ l.length * 240001) (fun _ => by simp [zoneP]) (fun l s ih h => ?_) ls
  have h1 := ih fun x hx => h x (List.mem_append_left _ hx)
  have h2 := texts_len s
  have h3 := h s (List.mem_append_right _ (List.mem_singleton.2 rfl))
  rw [zone_snoc, List.length_append, List.length_zipIdx, List.length_append, List.length_singleton, Nat.add_mul, Nat.one_mul]
  omega
theorem castT_len' (l : List WordL) : (castW l).length = l.length := by unfold castW; rw [List.length_map]
theorem flat_cast (Z : List WordL) : Z.flatMap wvN = (castW Z).flatMap wv := by
  unfold castW
  rw [List.flatMap_map]
  rfl

set_option maxRecDepth 100000 in
set_option maxHeartbeats 4000000 in
/-- slices.Collect over the words of a list of strings. -/
theorem collect_any (ls : List (List UInt8)) (G : Nat) (A : Option Addr) (m c : Nat) (Bl Bg : Nat) (w00 w : World) (hS : Ready10 w00) (hk0 : Below w00.heap.size w00 w)
    (hA : Arr sv w w.heap.size (.slice A m c) ls) (hl : w.cell? ⟨Bl, 0, none⟩ = some (.slice A m c)) (hg : w.cell? ⟨Bg, 0, none⟩ = some (.int .i64 (G : Int)))
    (hG : G ≤ 1000) (hm : m ≤ 1000) (hs : ∀ s ∈ ls, s.length ≤ 5000) :
    Calls Tryz.prog 33 #[.func (.func 64) #[] #[.pointer (some ⟨Bl, 0, none⟩), .pointer (some ⟨Bg, 0, none⟩)]] w fun e w' => ∃ A n c, e = .returned (.slice A n c) ∧ SArr 2 wv w' w'.heap.size (.slice A n c) (castW (zoneP G ls)) ∧ Below w.heap.size w w' := by
  have hks := hk0.size
  have hBl : Bl < w.heap.size := by obtain ⟨o, h1, _⟩ := cell_blockT hl; exact (Array.getElem?_eq_some_iff.1 h1).1
  have hBg : Bg < w.heap.size := by obtain ⟨o, h1, _⟩ := cell_blockT hg; exact (Array.getElem?_eq_some_iff.1 h1).1
  have hlen : ls.length = m := hA.len
  have hzl := zone_len G ls hs
  have HA := Lib.hid (appendSeq_any 100 (by omega) 64 #[.pointer (some ⟨Bl, 0, none⟩), .pointer (some ⟨Bg, 0, none⟩)] (enters_of Tryz.func64 (by kernel_rfl) rfl) (zoneP G ls) (by have : ls.length * 240001 ≤ 1000 * 240001 := Nat.mul_le_mul (by omega) (by omega); omega) w (fun W hW => by
    have hb : Below w.heap.size w W := by rw [hW]; exact (Below.refl _ w).alloc (Nat.le_refl _) _
    have hA' : Arr sv W W.heap.size (.slice A m c) ls := hA.up hb
    exact each_seq 99 (by omega) ls G A m c w00.heap.size w.heap.size Bl Bg w00 W rfl hS (hk0.trans (hb.mono hks)) hks hA' (fun hm0 a ha e => by
      obtain ⟨b, o, h1, h2, _⟩ := hA.some_ hm0
      rw [ha] at h1
      cases h1
      exact absurd e (by show b ≠ w.heap.size; omega)) ((hb.cell (p := ⟨Bl, 0, none⟩) hBl).trans hl) ((hb.cell (p := ⟨Bg, 0, none⟩) hBg).trans hg) (by omega) (by omega) hG hm hs))
  refine (callsIn_wide (n := 101)).1 ?_
  refine callsIn_of_wp Tryz.func33 rfl trivial ?_ rfl
  simp only [Tryz.ntmps33, List.size_toArray, List.length_cons, List.length_nil, Nat.reduceAdd, Nat.reduceSub, Array.replicate_succ, Array.replicate_zero, List.push_toArray, List.append_toArray, List.nil_append, List.cons_append]
  have d1 : Fence.wide.fn 63 := trivial
  clear hA hl hg hS hk0
  gi_wp2_with fail
  refine HA.out.mono ?_
  rintro e w' ⟨v, rfl, hrow, hb⟩
  have hrow2 : w'.ownsRow (w.heap.size + 1) 32 2 v (castW (zoneP G ls)).length ((castW (zoneP G ls)).flatMap wv) := by rw [← flat_cast, castT_len']; exact hrow
  have hS := SArr.of_own wv_len hrow2
  obtain ⟨A2, c2, rfl⟩ := hS.form
  have HS := Lib.hid hS
  clear hrow hrow2 hS
  gi_wp2
  go_ret
  exact ⟨_, _, _, rfl, HS.out, hb⟩

/-! The program's Words, Zone. -/
set_option maxRecDepth 20000 in
set_option maxHeartbeats 3200000 in
theorem prWords_any (s : List UInt8) (w : World) (hS : Ready10 w) (hs : s.length ≤ 5000) :
    Calls Tryz.prog 13 #[.string (str s)] w fun e w' => ∃ A n c, e = .returned (.slice A n c) ∧ SArr 2 wv w' w'.heap.size (.slice A n c) (castW (wordsP s)) ∧ Below w.heap.size w w' := by
  have hz : zoneP 0 [s] = wordsP s := by
    rw [zone_zero]; unfold wordsP; simp
  rw [← hz]
  obtain ⟨w1, hw1⟩ : ∃ w1, w.alloc (.cells #[.string (str s)] 9) = w1 := ⟨_, rfl⟩
  have h1 : w1.heap.size = w.heap.size + 1 := by rw [← hw1]; simp
  have hA1 : Arr sv w1 w1.heap.size (.slice (some ⟨w.heap.size, 0, none⟩) 1 1) [s] := by rw [← hw1]; exact arr_made w 9 [s] 1 _ rfl rfl
  have b1 : Below w.heap.size w w1 := by rw [← hw1]; exact below_new (Below.refl _ _) _
  have HE := Lib.hid (each_any (some ⟨w.heap.size, 0, none⟩) 1 1 0 w1)
  have b2 : Below w1.heap.size w1 ((w1.alloc (.cells #[.slice (some ⟨w.heap.size, 0, none⟩) 1 1] 25)).alloc (.cells #[.int .i64 0] 3)) := below_new (below_new (Below.refl _ _) _) _
  have b3 : Below w.heap.size w _ := below_next b1 b2
  have c1 := (Boxed.new w1 25 (.slice (some ⟨w.heap.size, 0, none⟩) 1 1)).alloc (.cells #[.int .i64 0] 3)
  have c2 := Boxed.new (w1.alloc (.cells #[.slice (some ⟨w.heap.size, 0, none⟩) 1 1] 25)) 3 (.int .i64 0)
  rw [World.size_alloc] at c2
  have HC := Lib.hid (collect_any [s] 0 _ 1 1 w1.heap.size (w1.heap.size + 1) w _ hS b3 (hA1.up b2) c1.cell c2.cell (by omega) (by omega) (fun x hx => by rw [List.mem_singleton.1 hx]; exact hs))
  have HB := Lib.hid b3
  clear hA1 c1 c2 b1 b2 b3 hS hz h1
  go_enter Tryz.func13, Tryz.ntmps13
  go_wp2_with fail
  refine HE.out.mono ?_
  rintro e w2 ⟨rfl, rfl⟩
  go_wp2_with fail
  refine HC.out.mono ?_
  rintro e w3 ⟨A, n, c, rfl, hA, hb⟩
  have HA := Lib.hid hA
  clear hA
  go_wp2
  go_ret
  exact ⟨_, _, _, rfl, HA.out, below_next HB.out hb⟩

set_option maxRecDepth 20000 in
set_option maxHeartbeats 3200000 in
theorem prZone_any (A : Option Addr) (n c : Nat) (l : List (List UInt8)) (G : Nat) (w : World) (hS : Ready10 w) (hA : Arr sv w w.heap.size (.slice A n c) l) (hn : n ≤ 1000) (hs : ∀ s ∈ l, s.length ≤ 5000) (hG : G ≤ 1000) :
    Calls Tryz.prog 24 #[.slice A n c, .int .i64 (G : Int)] w fun e w' => ∃ A' n' c', e = .returned (.tuple #[.slice A' n' c', .int .i64 0]) ∧ SArr 2 wv w' w'.heap.size (.slice A' n' c') (castW (zoneP G l)) ∧ Below w.heap.size w w' := by
  have HE := Lib.hid (each_any A n c (G : Int) w)
  have b2 : Below w.heap.size w ((w.alloc (.cells #[.slice A n c] 25)).alloc (.cells #[.int .i64 (G : Int)] 3)) := below_new (below_new (Below.refl _ _) _) _
  have c1 := (Boxed.new w 25 (.slice A n c)).alloc (.cells #[.int .i64 (G : Int)] 3)
  have c2 := Boxed.new (w.alloc (.cells #[.slice A n c] 25)) 3 (.int .i64 (G : Int))
  rw [World.size_alloc] at c2
  have HC := Lib.hid (collect_any l G A n c w.heap.size (w.heap.size + 1) w _ hS b2 (hA.up b2) c1.cell c2.cell hG hn hs)
  have HB := Lib.hid b2
  have g1 : ¬ ((G : Int) < 0) := by omega
  have g2 : ¬ ((1000 : Int) < (G : Int)) := by omega
  have g3 : (G : Int) ≤ 1000 := by omega
  have g4 : (0 : Int) ≤ (G : Int) := by omega
  clear c1 c2 b2 hS hA
  go_enter Tryz.func24, Tryz.ntmps24
  go_wp2_with fail
  refine HE.out.mono ?_
  rintro e w2 ⟨rfl, rfl⟩
  go_wp2_with fail
  refine HC.out.mono ?_
  rintro e w3 ⟨A2, n2, c2, rfl, hA, hb⟩
  have HA := Lib.hid hA
  clear hA
  go_wp2
  go_ret2
  exact ⟨_, _, _, rfl, HA.out, below_next HB.out hb⟩

set_option maxRecDepth 20000 in
set_option maxHeartbeats 3200000 in
theorem prZoneBad_any (A : Option Addr) (n c : Nat) (g : Int) (w : World) (hg : g < 0 ∨ 1000 < g) :
    Calls Tryz.prog 24 #[.slice A n c, .int .i64 g] w fun e w' => ∃ A' c', e = .returned (.tuple #[.slice A' 0 c', .int .i64 2]) ∧ SArr 2 wv w' w'.heap.size (.slice A' 0 c') [] ∧ Below w.heap.size w w' := by
  rcases hg with hg | hg
  · go_enter Tryz.func24, Tryz.ntmps24
    go_wp2
    go_ret2
    exact ⟨_, _, rfl, SArr.nil_ _ _, Below.refl _ _⟩
  · have g1 : ¬ (g < 0) := by omega
    go_enter Tryz.func24, Tryz.ntmps24
    go_wp2
    go_ret2
    exact ⟨_, _, rfl, SArr.nil_ _ _, Below.refl _ _⟩

end Go.Proofs.YtbnchnbblchmnaaGreatDoor

namespace Go.Proofs.YtbnchnbblchmnaaGreatDoor
open Go.RowKit Go.Shelf Go.Lib
attribute [local go_sem] Oper.semAt_some

def tvN (x : WordL) : List Value := [.string (str x.1)]
theorem tvN_len (x : WordL) : (tvN x).length = 1 := rfl
theorem tvN_one (x : WordL) : ∀ u ∈ tvN x, u.oneCell' = true := by
  intro u hu
  unfold tvN at hu
  simp only [List.mem_cons, List.not_mem_nil, or_false] at hu
  rw [hu]; rfl
theorem texts_ne : (25 : TypeId) ≠ 9 := by decide
theorem flat_texts (ts : List (List UInt8)) (k : Nat) : (ts.zipIdx k).flatMap tvN = ts.map sv := by
  induction ts generalizing k with
  | nil => rfl
  | cons t ts ih => rw [List.zipIdx_cons, List.flatMap_cons, ih]; rfl

set_option maxRecDepth 100000 in
set_option maxHeartbeats 4000000 in
theorem prTexts_any (s : List UInt8) (w : World) (hS : Ready10 w) (hs : s.length ≤ 5000) :
    Calls Tryz.prog 20 #[.string (str s)] w fun e w' => ∃ A n c, e = .returned (.slice A n c) ∧ Arr sv w' w'.heap.size (.slice A n c) (textsB s) ∧ Below w.heap.size w w' := by
  have hz : zoneP 0 [s] = (textsB s).zipIdx := by rw [zone_zero]; simp
  have htl := texts_len s
  obtain ⟨Z, hZ⟩ : ∃ Z, zoneP 0 [s] = Z := ⟨_, rfl⟩
  have hZl : Z.length = (textsB s).length := by rw [← hZ, hz, List.length_zipIdx]
  have HZ : Hid (Z.flatMap tvN = (textsB s).map sv) := Lib.hid (by rw [← hZ, hz, flat_texts])
  obtain ⟨W0, hW0⟩ : ∃ W0, w.alloc (.cells #[.slice none 0 0] 25) = W0 := ⟨_, rfl⟩
  have hst : Boxed W0 w.heap.size 25 (.slice none 0 0) := by rw [← hW0]; exact Boxed.new _ _ _
  have h0 : W0.heap.size = w.heap.size + 1 := by rw [← hW0]; simp
  have b0 : Below w.heap.size w W0 := by rw [← hW0]; exact below_new (Below.refl _ _) _
  obtain ⟨w1, hw1⟩ : ∃ w1, W0.alloc (.cells #[.string (str s)] 9) = w1 := ⟨_, rfl⟩
  have h1 : w1.heap.size = w.heap.size + 2 := by rw [← hw1]; simp; omega
  have hA1 : Arr sv w1 w1.heap.size (.slice (some ⟨W0.heap.size, 0, none⟩) 1 1) [s] := by rw [← hw1]; exact arr_made W0 9 [s] 1 _ rfl rfl
  have b1 : Below W0.heap.size W0 w1 := by rw [← hw1]; exact below_new (Below.refl _ _) _
  have HE := Lib.hid (each_any (some ⟨W0.heap.size, 0, none⟩) 1 1 0 w1)
  obtain ⟨w2, hw2⟩ : ∃ w2, (w1.alloc (.cells #[.slice (some ⟨W0.heap.size, 0, none⟩) 1 1] 25)).alloc (.cells #[.int .i64 0] 3) = w2 := ⟨_, rfl⟩
  have h2 : w2.heap.size = w.heap.size + 4 := by rw [← hw2]; simp; omega
  have b2 : Below w1.heap.size w1 w2 := by rw [← hw2]; exact below_new (below_new (Below.refl _ _) _) _
  have c1 : Boxed w2 w1.heap.size 25 (.slice (some ⟨W0.heap.size, 0, none⟩) 1 1) := by rw [← hw2]; exact (Boxed.new w1 _ _).alloc _
  have c2 : Boxed w2 (w1.heap.size + 1) 3 (.int .i64 0) := by
    rw [← hw2]
    have := Boxed.new (w1.alloc (.cells #[.slice (some ⟨W0.heap.size, 0, none⟩) 1 1] 25)) 3 (.int .i64 0)
    rw [World.size_alloc] at this
    exact this
  have bw2 : Below W0.heap.size W0 w2 := below_next b1 b2
  have hst2 : CollI w w.heap.size (w.heap.size + 4) 25 9 1 tvN none [] w2 := CollI.start ((bw2.block _ hst.lt).trans hst) (b0.trans (bw2.mono (by omega))) (by omega)
  have hs2 : SeqC Fence.wide 99 Tryz.prog 64 #[.pointer (some ⟨w1.heap.size, 0, none⟩), .pointer (some ⟨w1.heap.size + 1, 0, none⟩)] (fun x : WordL => #[wvE x]) (fun k => k < w2.heap.size ∧ k ≠ w.heap.size) (fun xs => xs = Z) Z.length w2 := by
    rw [← hZ]
    exact each_seq 99 (by omega) [s] 0 _ 1 1 w.heap.size w.heap.size w1.heap.size (w1.heap.size + 1) w w2 rfl hS (b0.trans (bw2.mono (by omega))) (Nat.le_refl _) (hA1.up b2) (fun _ a ha e => by cases ha; have e' : W0.heap.size = w.heap.size := e; omega) c1.cell c2.cell (by omega) (by omega) (by omega) (by omega) (fun x hx => by rw [List.mem_singleton.1 hx]; exact hs)
  refine (callsIn_wide (n := 100)).1 ?_
  refine callsIn_of_wp_marks Tryz.func20 rfl trivial ?_ rfl
  simp only [Tryz.ntmps20, List.size_toArray, List.length_cons, List.length_nil, Nat.reduceAdd, Nat.reduceSub, Array.replicate_succ, Array.replicate_zero, List.push_toArray, List.append_toArray, List.nil_append, List.cons_append]
  have d1 : Fence.wide.fn 34 := trivial
  have H0 := Lib.hid h0
  have H2 := Lib.hid h2
  clear hz hZ hst b0 hA1 b1 b2 c1 c2 bw2 hS h0 h1 h2
  have HB := Lib.hid hst2
  have HS := Lib.hid hs2
  clear hst2 hs2
  gi_wp2_with fail
  refine (callsIn_wide.2 HE.out).mono ?_
  rintro e w3 ⟨rfl, rfl⟩
  gi_wp2
  refine wpIn_rangeFunc_sep rfl (by omega) rfl trivial (enters_of Tryz.func64 (by kernel_rfl) rfl) HS.out (Below.refl _ _) (fun _ => rfl) (CollI w w.heap.size (w.heap.size + 4) 25 9 1 tvN)
    (fun g s A h => h.cells) (fun g s A B h ha => h.apart (Nat.le_refl _) (by omega) (by have h2 := H2.out; rw [h2] at ha; exact ha)) none HB.out
    (fun x a' W => ∃ B, W.heap[B]? = some (.cells #[.string (str x.1), .int .i64 (x.2 : Int)] 32 (0, 0)) ∧ a' = { tmps := #[.string (str s), undef, .slice none 0 0, .pointer (some ⟨w.heap.size, 0, none⟩), .pointer (some ⟨B, 0, none⟩), .string (str s), .slice (some ⟨W0.heap.size, 0, none⟩) 1 1, .func (.func 64) #[] #[.pointer (some ⟨w1.heap.size, 0, none⟩), .pointer (some ⟨w1.heap.size + 1, 0, none⟩)], wvE x, undef, undef, undef, undef, undef, undef], defers := [] })
    (fun x a' A k o o' hx hk ho => by
      obtain ⟨B, h1, h2⟩ := hx
      exact ⟨B, (World.putObj_heap_other (fun e => by rw [e, hk] at h1; cases h1; cases ho)).trans h1, h2⟩) ?assign ?body ?done
  case assign =>
    intro l go pre x W K hi hK
    unfold wvE
    gi_wp2
    have hb := (Below.refl W.heap.size W).alloc (Nat.le_refl _) (.cells #[.string (str x.1), .int .i64 (x.2 : Int)] 32)
    exact hK _ _ (RoundC.of_below hb) (hi.apart (Nat.le_refl _) (by omega) (Apart.of_below hb)) ⟨W.heap.size, World.alloc_heap_new W _, rfl⟩
  case body =>
    rintro l go pre x a' W ⟨v, hbox, hrow, hg, hw, hz⟩ ⟨B, hB, rfl⟩ hlt
    have hc := hbox.cell
    have d0 : W.cell? ⟨B, 0, none⟩ = some (.string (str x.1)) := by simp [World.cell?, hB]
    have hws := hw.size
    have hbw := hbox.lt
    have h2 := H2.out
    have HBx := Lib.hid hbox
    have HR := Lib.hid hrow
    have HG := Lib.hid hg
    have HW := Lib.hid hw
    have hlt' : pre.length ≤ 1000000000 := by omega
    clear hB hbox hrow hg hw h2
    gi_wp2_with (gi_at_builtin; refine append_struct_in (val := tvN) 25 9 (.string ⟨#[]⟩) 16 Tryz.underlying25 info_str10 rfl (by decide) (by decide) tvN_len tvN_one W rfl (.tmp 9) (.tmp 12) rfl (w.heap.size + 4) v pre rfl HR.out x #[.string (str x.1)] rfl W.heap.size rfl rfl (by omega) (by omega) ?_; intro v' w1' hown' hgrow hwh; obtain ⟨hb1, hC, hRd⟩ := CollI.stored (U := fun k => k < w2.heap.size ∧ k ≠ w.heap.size) (Nat.le_refl _) (by omega) texts_ne HBx.out HR.out HG.out HW.out hz hown' hgrow hwh (fun k hk => ⟨by have := H2.out; omega, hk.2⟩); have hc1 := hb1.cell; have hf1 := hb1.frozen; rw [List.length_append, List.length_singleton] at hown'; obtain ⟨g', cap, rfl⟩ := ownsRow_succ hown'; have HC := Lib.hid hC; have HRd := Lib.hid hRd; clear hown' hgrow hwh hC hRd hb1)
    exact ⟨_, HC.out, by have h5 := HRd.out; have h2 := H2.out; rw [h2] at h5 ⊢; exact h5⟩
  case done =>
    rintro D xs go W hD rfl ⟨v, hbox, hrow, hg, hw, hz⟩ hDef
    have hc := hbox.cell
    have hbl : v.ownBlock = none ∨ v.ownBlock ≠ some D := by
      cases hv : v.ownBlock with
      | none => exact .inl rfl
      | some k =>
        refine .inr fun e => ?_
        obtain ⟨o, h1, h2⟩ := CollI.cells (w := w) (Bx := w.heap.size) (lo := w.heap.size + 4) (val := tvN) (g := go) (pre := xs) ⟨v, hbox, hrow, hg, hw, hz⟩ D (by rw [hg, hv]; exact e)
        rw [hDef] at h1; cases h1; cases h2
    have hk := hrow.kept (grownBy_putObj' W D (.deferred none)) hbl
    rw [HZ.out, hZl] at hk
    have hA : Arr sv (W.putObj D (.deferred none)) (W.putObj D (.deferred none)).heap.size v (textsB s) := Arr.of_own hk
    obtain ⟨A, c, rfl⟩ := hA.form
    have HA := Lib.hid hA
    have h2 := H2.out
    have HW := Lib.hid (hw.grown (grownBy_putObj' W D (.deferred none)) hw.size (fun k e => by cases e; omega))
    clear hrow hw hbox hg hk hA h2 hbl
    gi_wp2
    refine ⟨by simp, .inl ⟨_, _, rfl, run_takeDeferred hDef, ?_⟩⟩
    exact ⟨_, results_tmp rfl _ _ _, _, _, _, rfl, HA.out, HW.out⟩

end Go.Proofs.YtbnchnbblchmnaaGreatDoor
