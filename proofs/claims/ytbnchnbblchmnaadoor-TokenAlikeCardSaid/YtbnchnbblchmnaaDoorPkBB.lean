/-
  The program's Texts.
  The program's Ordered, Join.
  Sorting and leaving out what stands twice is the ascending list of all, as plain mathematics.
-/
import Derived.Test.YtbnchnbblchmnaaDoorPkBA
import Derived.Test.YtbnchnbblchmnaaDoorPkAY
import Derived.Test.YtbnchnbblchmnaaDoorPkAL
import Derived.Test.YtbnchnbblchmnaaDoorPkAO
import Derived.Test.YtbnchnbblchmnaaDoorPkAM
import Derived.Lib.SlicesCompact
namespace Go.Proofs.YtbnchnbblchmnaaDoor
open Go.RowKit Go.Shelf Go.Lib
attribute [local go_sem] Oper.semAt_some

def tvN (x : WordL) : List Value := [.string (str x.1)]
theorem tvN_len (x : WordL) : (tvN x).length = 1 := rfl
theorem tvN_one (x : WordL) : ∀ u ∈ tvN x, u.oneCell' = true := by
  intro u hu
  unfold tvN at hu
  simp only [List.mem_cons, List.not_mem_nil, or_false] at hu
  rw [hu]; rfl
theorem texts_ne : (27 : TypeId) ≠ 9 := by decide
theorem flat_texts (ts : List (List UInt8)) (k : Nat) : (ts.zipIdx k).flatMap tvN = ts.map sv := by
  induction ts generalizing k with
  | nil => rfl
  | cons t ts ih => rw [List.zipIdx_cons, List.flatMap_cons, ih]; rfl

set_option maxRecDepth 100000 in
set_option maxHeartbeats 4000000 in
theorem prTexts_any (s : List UInt8) (w : World) (hS : Ready10 w) (hs : s.length ≤ 5000) :
    Calls Tryd.prog 13 #[.string (str s)] w fun e w' => ∃ A n c, e = .returned (.slice A n c) ∧ Arr sv w' w'.heap.size (.slice A n c) (textsB s) ∧ Below w.heap.size w w' := by
  have hz : zoneP 0 [s] = (textsB s).zipIdx := by rw [zone_zero]; simp
  have htl := texts_len s
  obtain ⟨Z, hZ⟩ : ∃ Z, zoneP 0 [s] = Z := ⟨_, rfl⟩
  have hZl : Z.length = (textsB s).length := by rw [← hZ, hz, List.length_zipIdx]
  have HZ : Hid (Z.flatMap tvN = (textsB s).map sv) := Lib.hid (by rw [← hZ, hz, flat_texts])
  obtain ⟨W0, hW0⟩ : ∃ W0, w.alloc (.cells #[.slice none 0 0] 27) = W0 := ⟨_, rfl⟩
  have hst : Boxed W0 w.heap.size 27 (.slice none 0 0) := by rw [← hW0]; exact Boxed.new _ _ _
  have h0 : W0.heap.size = w.heap.size + 1 := by rw [← hW0]; simp
  have b0 : Below w.heap.size w W0 := by rw [← hW0]; exact below_new (Below.refl _ _) _
  obtain ⟨w1, hw1⟩ : ∃ w1, W0.alloc (.cells #[.string (str s)] 9) = w1 := ⟨_, rfl⟩
  have h1 : w1.heap.size = w.heap.size + 2 := by rw [← hw1]; simp; omega
  have hA1 : Arr sv w1 w1.heap.size (.slice (some ⟨W0.heap.size, 0, none⟩) 1 1) [s] := by rw [← hw1]; exact arr_made W0 9 [s] 1 _ rfl rfl
  have b1 : Below W0.heap.size W0 w1 := by rw [← hw1]; exact below_new (Below.refl _ _) _
  have HE := Lib.hid (each_any (some ⟨W0.heap.size, 0, none⟩) 1 1 0 w1)
  obtain ⟨w2, hw2⟩ : ∃ w2, (w1.alloc (.cells #[.slice (some ⟨W0.heap.size, 0, none⟩) 1 1] 27)).alloc (.cells #[.int .i64 0] 3) = w2 := ⟨_, rfl⟩
  have h2 : w2.heap.size = w.heap.size + 4 := by rw [← hw2]; simp; omega
  have b2 : Below w1.heap.size w1 w2 := by rw [← hw2]; exact below_new (below_new (Below.refl _ _) _) _
  have c1 : Boxed w2 w1.heap.size 27 (.slice (some ⟨W0.heap.size, 0, none⟩) 1 1) := by rw [← hw2]; exact (Boxed.new w1 _ _).alloc _
  have c2 : Boxed w2 (w1.heap.size + 1) 3 (.int .i64 0) := by
    rw [← hw2]
    have := Boxed.new (w1.alloc (.cells #[.slice (some ⟨W0.heap.size, 0, none⟩) 1 1] 27)) 3 (.int .i64 0)
    rw [World.size_alloc] at this
    exact this
  have bw2 : Below W0.heap.size W0 w2 := below_next b1 b2
  have hst2 : CollI w w.heap.size (w.heap.size + 4) 27 9 1 tvN none [] w2 := CollI.start ((bw2.block _ hst.lt).trans hst) (b0.trans (bw2.mono (by omega))) (by omega)
  have hs2 : SeqC Fence.wide 99 Tryd.prog 36 #[.pointer (some ⟨w1.heap.size, 0, none⟩), .pointer (some ⟨w1.heap.size + 1, 0, none⟩)] (fun x : WordL => #[wvE x]) (fun k => k < w2.heap.size ∧ k ≠ w.heap.size) (fun xs => xs = Z) Z.length w2 := by
    rw [← hZ]
    exact each_seq 99 (by omega) [s] 0 _ 1 1 w.heap.size w.heap.size w1.heap.size (w1.heap.size + 1) w w2 rfl hS (b0.trans (bw2.mono (by omega))) (Nat.le_refl _) (hA1.up b2) (fun _ a ha e => by cases ha; have e' : W0.heap.size = w.heap.size := e; omega) c1.cell c2.cell (by omega) (by omega) (by omega) (by omega) (fun x hx => by rw [List.mem_singleton.1 hx]; exact hs)
  refine (callsIn_wide (n := 100)).1 ?_
  refine callsIn_of_wp_marks Tryd.func13 rfl trivial ?_ rfl
  simp only [Tryd.ntmps13, List.size_toArray, List.length_cons, List.length_nil, Nat.reduceAdd, Nat.reduceSub, Array.replicate_succ, Array.replicate_zero, List.push_toArray, List.append_toArray, List.nil_append, List.cons_append]
  have d1 : Fence.wide.fn 24 := trivial
  have H0 := Lib.hid h0
  have H2 := Lib.hid h2
  clear hz hZ hst b0 hA1 b1 b2 c1 c2 bw2 hS h0 h1 h2
  have HB := Lib.hid hst2
  have HS := Lib.hid hs2
  clear hst2 hs2
  gi_wp2_with fail
  refine (callsIn_wide.2 HE.out).mono ?_
  rintro e w3 ⟨rfl, rfl⟩
  gi_wp2
  refine wpIn_rangeFunc_sep rfl (by omega) rfl trivial (enters_of Tryd.func36 (by kernel_rfl) rfl) HS.out (Below.refl _ _) (fun _ => rfl) (CollI w w.heap.size (w.heap.size + 4) 27 9 1 tvN)
    (fun g s A h => h.cells) (fun g s A B h ha => h.apart (Nat.le_refl _) (by omega) (by have h2 := H2.out; rw [h2] at ha; exact ha)) none HB.out
    (fun x a' W => ∃ B, W.heap[B]? = some (.cells #[.string (str x.1), .int .i64 (x.2 : Int)] 46 (0, 0)) ∧ a' = { tmps := #[.string (str s), undef, .slice none 0 0, .pointer (some ⟨w.heap.size, 0, none⟩), .pointer (some ⟨B, 0, none⟩), .string (str s), .slice (some ⟨W0.heap.size, 0, none⟩) 1 1, .func (.func 36) #[] #[.pointer (some ⟨w1.heap.size, 0, none⟩), .pointer (some ⟨w1.heap.size + 1, 0, none⟩)], wvE x, undef, undef, undef, undef, undef, undef], defers := [] })
    (fun x a' A k o o' hx hk ho => by
      obtain ⟨B, h1, h2⟩ := hx
      exact ⟨B, (World.putObj_heap_other (fun e => by rw [e, hk] at h1; cases h1; cases ho)).trans h1, h2⟩) ?assign ?body ?done
  case assign =>
    intro l go pre x W K hi hK
    unfold wvE
    gi_wp2
    have hb := (Below.refl W.heap.size W).alloc (Nat.le_refl _) (.cells #[.string (str x.1), .int .i64 (x.2 : Int)] 46)
    exact hK _ _ (RoundC.of_below hb) (hi.apart (Nat.le_refl _) (by omega) (Apart.of_below hb)) ⟨W.heap.size, World.alloc_heap_new W _, rfl⟩
  case body =>
    rintro l go pre x a' W ⟨v, hbox, hrow, hg, hw, hz⟩ ⟨B, hB, rfl⟩ hlt
    have hc := hbox.cell
    have d0 : W.cell? ⟨B, 0, none⟩ = some (.string (str x.1)) := by simp [World.cell?, hB]
    have hws := hw.size
    have hbw := hbox.lt
    have h2 := H2.out
    have HBx := Lib.hid hbox
    have HR := Lib.hid hrow
    have HG := Lib.hid hg
    have HW := Lib.hid hw
    have hlt' : pre.length ≤ 1000000000 := by omega
    clear hB hbox hrow hg hw h2
    gi_wp2_with (gi_at_builtin; refine append_struct_in (val := tvN) 27 9 (.string ⟨#[]⟩) 16 Tryd.underlying27 info_str10 rfl (by decide) (by decide) tvN_len tvN_one W rfl (.tmp 9) (.tmp 12) rfl (w.heap.size + 4) v pre rfl HR.out x #[.string (str x.1)] rfl W.heap.size rfl rfl (by omega) (by omega) ?_; intro v' w1' hown' hgrow hwh; obtain ⟨hb1, hC, hRd⟩ := CollI.stored (U := fun k => k < w2.heap.size ∧ k ≠ w.heap.size) (Nat.le_refl _) (by omega) texts_ne HBx.out HR.out HG.out HW.out hz hown' hgrow hwh (fun k hk => ⟨by have := H2.out; omega, hk.2⟩); have hc1 := hb1.cell; have hf1 := hb1.frozen; rw [List.length_append, List.length_singleton] at hown'; obtain ⟨g', cap, rfl⟩ := ownsRow_succ hown'; have HC := Lib.hid hC; have HRd := Lib.hid hRd; clear hown' hgrow hwh hC hRd hb1)
    exact ⟨_, HC.out, by have h5 := HRd.out; have h2 := H2.out; rw [h2] at h5 ⊢; exact h5⟩
  case done =>
    rintro D xs go W hD rfl ⟨v, hbox, hrow, hg, hw, hz⟩ hDef
    have hc := hbox.cell
    have hbl : v.ownBlock = none ∨ v.ownBlock ≠ some D := by
      cases hv : v.ownBlock with
      | none => exact .inl rfl
      | some k =>
        refine .inr fun e => ?_
        obtain ⟨o, h1, h2⟩ := CollI.cells (w := w) (Bx := w.heap.size) (lo := w.heap.size + 4) (val := tvN) (g := go) (pre := xs) ⟨v, hbox, hrow, hg, hw, hz⟩ D (by rw [hg, hv]; exact e)
        rw [hDef] at h1; cases h1; cases h2
    have hk := hrow.kept (grownBy_putObj' W D (.deferred none)) hbl
    rw [HZ.out, hZl] at hk
    have hA : Arr sv (W.putObj D (.deferred none)) (W.putObj D (.deferred none)).heap.size v (textsB s) := Arr.of_own hk
    obtain ⟨A, c, rfl⟩ := hA.form
    have HA := Lib.hid hA
    have h2 := H2.out
    have HW := Lib.hid (hw.grown (grownBy_putObj' W D (.deferred none)) hw.size (fun k e => by cases e; omega))
    clear hrow hw hbox hg hk hA h2 hbl
    gi_wp2
    refine ⟨by simp, .inl ⟨_, _, rfl, run_takeDeferred hDef, ?_⟩⟩
    exact ⟨_, results_tmp rfl _ _ _, _, _, _, rfl, HA.out, HW.out⟩

end Go.Proofs.YtbnchnbblchmnaaDoor

namespace Go.Proofs.YtbnchnbblchmnaaDoor
open Go.RowKit

theorem castO_len (l : List WordL) : (castW l).length = l.length := by unfold castW; rw [List.length_map]
theorem cast_get {l : List WordL} {k : Nat} {x : WordL} (h : l[k]? = some x) : (castW l)[k]? = some (x.1, (x.2 : Int)) := by
  unfold castW
  rw [List.getElem?_map, h]
  rfl
set_option maxRecDepth 20000 in
set_option maxHeartbeats 3200000 in
theorem prOrdered_any (A : Option Addr) (n c : Nat) (l : List WordL) (w : World) (hA : SArr 2 wv w w.heap.size (.slice A n c) (castW l)) (hn : n ≤ 10000000) (hl : OrdP l) :
    Calls Tryd.prog 20 #[.slice A n c] w fun e w' => e = .returned (.bool true) ∧ Below w.heap.size w w' := by
  have hlen : l.length = n := by have := hA.len; rwa [castO_len] at this
  have HA := Lib.hid hA
  have HL := Lib.hid hl
  have HN := Lib.hid hlen
  clear hA hl hlen
  go_enter Tryd.func20, Tryd.ntmps20
  go_wp2
  go_loopw [3, 8] (fun s3 s8 wr => ∃ (k : Nat) (z : Int), s8 = .int .i64 (k : Int) ∧ s3 = .int .i64 z ∧ k ≤ n ∧ Hid (∀ x, l[k]? = some x → z < (x.2 : Int)) ∧ Below w.heap.size w wr) (fun _ s8 _ => n - (intOf s8).toNat)
  case atStart => exact ⟨0, -1, rfl, rfl, Nat.zero_le _, Lib.hid (fun x _ => by omega), Below.refl _ _⟩
  case round =>
    obtain ⟨k, z, rfl, rfl, hk, hz, hb⟩ := hrel
    have hk0 : (0 : Int) ≤ (k : Int) := by omega
    by_cases hkn : k < n
    · have hkz : (k : Int) < (n : Int) := by omega
      obtain ⟨x, hx⟩ : ∃ x, l[k]? = some x := ⟨_, List.getElem?_eq_getElem (by have := HN.out; omega)⟩
      obtain ⟨b0, o0, rfl, hB0, hc0⟩ := words_cells HA.out (by omega)
      have d0 : wr.cell? ⟨b0, o0 + k * 2, none⟩ = some (.string (str x.1)) := (hb.cell (p := ⟨b0, o0 + k * 2, none⟩) hB0).trans (hc0 k _ (cast_get hx)).1
      have d1 : wr.cell? ⟨b0, o0 + k * 2 + 1, none⟩ = some (.int .i64 (x.2 : Int)) := (hb.cell (p := ⟨b0, o0 + k * 2 + 1, none⟩) hB0).trans (hc0 k _ (cast_get hx)).2
      have hpos := hz.out x hx
      have hpos2 : ¬ ((x.2 : Int) ≤ z) := by omega
      have hne := HL.out.2 x (List.mem_of_getElem? hx)
      have e1 := strs_ne hne
      have e2 := strs_some hne
      have hnext : Hid (∀ y, l[k + 1]? = some y → (x.2 : Int) < (y.2 : Int)) := Lib.hid (fun y hy => by
        have h1 := List.pairwise_iff_getElem.1 HL.out.1 k (k + 1) (by have := (List.getElem?_eq_some_iff.1 hx).1; omega) (by have := (List.getElem?_eq_some_iff.1 hy).1; omega) (by omega)
        rw [(List.getElem?_eq_some_iff.1 hx).2, (List.getElem?_eq_some_iff.1 hy).2] at h1
        omega)
      clear hx hc0 hz hne
      go_wp2
      go_roundw
      case rel => exact ⟨k + 1, (x.2 : Int), by simp, rfl, by omega, hnext, hb.alloc hb.size _⟩
      case measure => simp [intOf]; omega
    · obtain rfl : k = n := by omega
      go_wp2
      go_ret
      exact ⟨rfl, hb⟩


/-- strings.Join over a list that is held. -/
theorem joinedT_any (v : Value) (xs : List (List UInt8)) (sep : List UInt8) (w : World) (h : Arr sv w w.heap.size v xs) (hn : xs.length ≤ 10000000) (hlen : (Lib.join xs sep).length ≤ 100000000) :
    Calls Tryd.prog 25 #[v, .string (str sep)] w fun e w' => e = .returned (.string (str (Lib.join xs sep))) ∧ Below w.heap.size w w' := by
  have hmap : (xs.map str).map (·.data.toList) = xs := by
    rw [List.map_map]
    conv => rhs; rw [← List.map_id xs]
    apply List.map_congr_left
    intro a _
    simp [str]
  have hsep : (str sep).data.toList = sep := by simp [str]
  rcases h with ⟨rfl, rfl⟩ | ⟨a, c, rfl, hc, hb, hcell⟩
  · have h1 := Any.strings_Join_none joinLays buildExtra6 none 0 (str sep) w
    have h2 : Calls Tryd.prog 25 #[.slice none 0 0, .string (str sep)] w _ := h1
    refine h2.mono ?_
    rintro e w' ⟨rfl, rfl⟩
    exact ⟨rfl, Below.refl _ _⟩
  · by_cases h0 : xs.length = 0
    · obtain rfl := List.length_eq_zero_iff.1 h0
      have h1 := Any.strings_Join_none joinLays buildExtra6 (some a) c (str sep) w
      have h2 : Calls Tryd.prog 25 #[.slice (some a) ([] : List (List UInt8)).length c, .string (str sep)] w _ := h1
      refine h2.mono ?_
      rintro e w' ⟨rfl, rfl⟩
      exact ⟨rfl, Below.refl _ _⟩
    · obtain ⟨bk, o, e1, hbk, hcs⟩ := Arr.some_ (val := sv) (w := w) (B := w.heap.size) (n := xs.length) (c := c) (A := some a) (xs := xs) (.inr ⟨a, c, rfl, hc, hb, hcell⟩) (by omega)
      injection e1 with e1
      subst e1
      have h1 := Any.strings_Join joinLays buildExtra6 bk o c (xs.map str) (str sep) w (fun j x hx => by
        rw [List.getElem?_map] at hx
        cases hj : xs[j]? with
        | none => rw [hj] at hx; cases hx
        | some y => rw [hj] at hx; obtain rfl := Option.some.inj hx; exact hcs j y hj) hbk (by rw [List.length_map]; omega) (by rw [List.length_map]; exact hc) (by rw [hmap, hsep]; omega)
      rw [hmap, hsep, List.length_map] at h1
      exact h1

theorem inter_join : ∀ xs : List (List UInt8), Lib.join xs [32] = joinG 32 xs
  | [] => rfl
  | [x] => by unfold Lib.join; simp [joinG]
  | x :: y :: l => by
    have ih := inter_join (y :: l)
    rw [joinG, ← ih]
    unfold Lib.join
    simp [List.intercalate]
def sv1 (s : List UInt8) : List Value := [sv s]
theorem sv1_len (s : List UInt8) : (sv1 s).length = 1 := rfl
theorem sv1_one (s : List UInt8) : ∀ u ∈ sv1 s, u.oneCell' = true := by
  intro u hu
  unfold sv1 at hu
  rw [List.mem_singleton.1 hu]; rfl
theorem flat_sv1 : ∀ xs : List (List UInt8), xs.flatMap sv1 = xs.map sv
  | [] => rfl
  | x :: xs => by rw [List.flatMap_cons, flat_sv1 xs]; rfl
theorem info_strO : (Tryd.prog.info? 9).map (fun i => (i.zero, i.size, i.bytes)) = some (some (.string ⟨#[]⟩), 1, 16) := by kernel_rfl

set_option maxRecDepth 20000 in
set_option maxHeartbeats 3200000 in
theorem prJoin_any (A : Option Addr) (n c : Nat) (l : List WordI) (w : World) (hA : SArr 2 wv w w.heap.size (.slice A n c) l) (hn : n ≤ 10000000) (hl : (joinI l).length ≤ 10000000) :
    Calls Tryd.prog 15 #[.slice A n c] w fun e w' => e = .returned (.string (str (joinI l))) ∧ Below w.heap.size w w' := by
  have hlen : l.length = n := hA.len
  have HA := Lib.hid hA
  have HL := Lib.hid hl
  have HN := Lib.hid hlen
  clear hA hl hlen
  go_enter Tryd.func15, Tryd.ntmps15
  go_wp2
  go_loopw [3, 8] (fun s3 s8 wr => ∃ (k : Nat), s8 = .int .i64 (k : Int) ∧ k ≤ n ∧ wr.ownsRow w.heap.size 9 1 s3 ((l.take k).map Prod.fst).length (((l.take k).map Prod.fst).flatMap sv1) ∧ Below w.heap.size w wr) (fun _ s8 _ => n - (intOf s8).toNat)
  case atStart => exact ⟨0, rfl, Nat.zero_le _, World.ownsRow_nil _ _ _ _, Below.refl _ _⟩
  case round =>
    obtain ⟨k, rfl, hk, hr, hb⟩ := hrel
    have hk0 : (0 : Int) ≤ (k : Int) := by omega
    by_cases hkn : k < n
    · have hkz : (k : Int) < (n : Int) := by omega
      obtain ⟨x, hx⟩ : ∃ x, l[k]? = some x := ⟨_, List.getElem?_eq_getElem (by have := HN.out; omega)⟩
      obtain ⟨b0, o0, rfl, hB0, hc0⟩ := words_cells HA.out (by omega)
      have d0 : wr.cell? ⟨b0, o0 + k * 2, none⟩ = some (.string (str x.1)) := (hb.cell (p := ⟨b0, o0 + k * 2, none⟩) hB0).trans (hc0 k x hx).1
      have d1 : wr.cell? ⟨b0, o0 + k * 2 + 1, none⟩ = some (.int .i64 x.2) := (hb.cell (p := ⟨b0, o0 + k * 2 + 1, none⟩) hB0).trans (hc0 k x hx).2
      have hnx : Hid ((l.take (k + 1)).map Prod.fst = (l.take k).map Prod.fst ++ [x.1]) := Lib.hid (by rw [take_next hx, List.map_append]; rfl)
      have hbs := hb.size
      obtain ⟨L, hL⟩ : ∃ L, (l.take k).map Prod.fst = L := ⟨_, rfl⟩
      have hLl : L.length ≤ 10000000 := by rw [← hL, List.length_map, List.length_take]; omega
      rw [hL] at hr hnx
      have hr1 := own_keep_below hr ((Below.refl _ wr).alloc (Nat.le_refl _) (.cells #[.string (str x.1), .int .i64 x.2] 46))
      have hb1 : Below w.heap.size w (wr.alloc (.cells #[.string (str x.1), .int .i64 x.2] 46)) := hb.alloc hbs _
      have HR := Lib.hid hr1
      clear hx hc0 hL hr hr1
      go_wp2_with (at_builtin; refine append_struct (val := sv1) 27 9 (.string ⟨#[]⟩) 16 Tryd.underlying27 info_strO rfl (by decide) (by decide) sv1_len sv1_one (wr.alloc (.cells #[.string (str x.1), .int .i64 x.2] 46)) rfl (.tmp 12) (.tmp 15) rfl w.heap.size u3 L rfl HR.out x.1 #[.string (str x.1)] rfl (wr.heap.size + 1) (World.size_alloc _ _) rfl (by omega) (Nat.le_trans hbs (by simp)) ?_; intro v' w' hown' hbw; have hb2 := hb1.trans hbw; have HO := Lib.hid hown'; clear hown' hbw)
      go_roundw
      case rel => exact ⟨k + 1, by simp, by omega, by rw [hnx.out]; exact HO.out, hb2⟩
      case measure => simp [intOf]; omega
    · obtain rfl : k = n := by omega
      have hfull : (l.take k).map Prod.fst = l.map Prod.fst := by rw [List.take_of_length_le (by have := HN.out; omega)]
      rw [hfull] at hr
      rw [flat_sv1] at hr
      have hArr : Arr sv wr wr.heap.size u3 (l.map Prod.fst) := Arr.of_own hr
      have HJ := Lib.hid (joinedT_any u3 (l.map Prod.fst) [32] wr hArr (by rw [List.length_map]; have := HN.out; omega) (by rw [inter_join]; have := HL.out; unfold joinI at this; omega))
      rw [inter_join] at HJ
      clear hfull hr hArr
      go_wp2_with fail
      refine HJ.out.mono ?_
      rintro e w2 ⟨rfl, k2⟩
      go_wp2
      go_ret
      exact ⟨rfl, below_next hb k2⟩

end Go.Proofs.YtbnchnbblchmnaaDoor

namespace Go.Proofs.YtbnchnbblchmnaaDoor

section
variable {α : Type} [LT α]
theorem asc_eq (hir : ∀ a : α, ¬ a < a) (htr : ∀ a b c : α, a < b → b < c → a < c) : ∀ a b : List α, a.Pairwise (· < ·) → b.Pairwise (· < ·) → (∀ x, x ∈ a ↔ x ∈ b) → a = b
  | [], [], _, _, _ => rfl
  | [], y :: b, _, _, h => by have := (h y).2 List.mem_cons_self; cases this
  | x :: a, [], _, _, h => by have := (h x).1 List.mem_cons_self; cases this
  | x :: a, y :: b, ha, hb, h => by
    obtain ⟨ha1, ha2⟩ := List.pairwise_cons.1 ha
    obtain ⟨hb1, hb2⟩ := List.pairwise_cons.1 hb
    have hxy : x = y := by
      rcases List.mem_cons.1 ((h x).1 List.mem_cons_self) with e | e
      · exact e
      · rcases List.mem_cons.1 ((h y).2 List.mem_cons_self) with e2 | e2
        · exact e2.symm
        · exact absurd (htr _ _ _ (ha1 y e2) (hb1 x e)) (hir x)
    subst hxy
    rw [asc_eq hir htr a b ha2 hb2 fun z => ?_]
    constructor
    · intro hz
      rcases List.mem_cons.1 ((h z).1 (List.mem_cons_of_mem _ hz)) with e | e
      · exact absurd (ha1 z hz) (by rw [e]; exact hir x)
      · exact e
    · intro hz
      rcases List.mem_cons.1 ((h z).2 (List.mem_cons_of_mem _ hz)) with e | e
      · exact absurd (hb1 z hz) (by rw [e]; exact hir x)
      · exact e
end

theorem compact_asc (d : Array Int) (hs : ∀ i j, i ≤ j → j < d.size → d[i]! ≤ d[j]!) : (Lib.compactUpTo d d.size).Pairwise (· < ·) := by
  unfold Lib.compactUpTo
  rw [List.pairwise_map]
  have h1 : ((List.range d.size).filter (Lib.keeps d)).Pairwise (· < ·) := List.Pairwise.filter _ List.pairwise_lt_range
  refine List.Pairwise.imp_of_mem ?_ h1
  intro i j hi hj hij
  have hj2 := List.mem_filter.1 hj
  have hjs : j < d.size := List.mem_range.1 hj2.1
  have hk := hj2.2
  unfold Lib.keeps at hk
  have hk2 : j = 0 ∨ d[j]! ≠ d[j - 1]! := of_decide_eq_true hk
  have h3 := hs i (j - 1) (by omega) (by omega)
  have h4 := hs (j - 1) j (by omega) hjs
  rcases hk2 with h | h
  · omega
  · omega
theorem compact_mem (d : Array Int) (x : Int) : x ∈ Lib.compactUpTo d d.size ↔ ∃ j, j < d.size ∧ d[j]! = x := by
  unfold Lib.compactUpTo
  constructor
  · intro h
    obtain ⟨j, hj, e⟩ := List.mem_map.1 h
    exact ⟨j, List.mem_range.1 (List.mem_filter.1 hj).1, e⟩
  · rintro ⟨j, hj, e⟩
    have key : ∀ j, j < d.size → d[j]! ∈ ((List.range d.size).filter (Lib.keeps d)).map (d[·]!) := by
      intro j
      induction j with
      | zero => intro hj; exact List.mem_map.2 ⟨0, List.mem_filter.2 ⟨List.mem_range.2 hj, Lib.keeps_lt_one d 0 (by omega)⟩, rfl⟩
      | succ j ih =>
        intro hj
        by_cases hk : Lib.keeps d (j + 1) = true
        · exact List.mem_map.2 ⟨j + 1, List.mem_filter.2 ⟨List.mem_range.2 hj, hk⟩, rfl⟩
        · have h1 := ih (by omega)
          unfold Lib.keeps at hk
          have h2 : d[j + 1]! = d[j]! := by
            by_cases he : d[j + 1]! = d[j]!
            · exact he
            · exact absurd (decide_eq_true (Or.inr (by simpa using he))) hk
          rw [h2]
          exact h1
    rw [← e]
    exact key j hj
theorem sort_compact (P : List Int) : Lib.compact (P.mergeSort fun x y => decide (x ≤ y)) = setA P := by
  have hle : (P.mergeSort fun x y => decide (x ≤ y)).Pairwise fun a b => a ≤ b := by
    have := List.pairwise_mergeSort (le := fun (x y : Int) => decide (x ≤ y)) (fun a b c h1 h2 => by simp at h1 h2 ⊢; omega) (fun a b => by simp; omega) P
    exact this.imp fun h => by simpa using h
  have hm : ∀ x, x ∈ (P.mergeSort fun x y => decide (x ≤ y)) ↔ x ∈ P := fun x => List.mem_mergeSort
  unfold Lib.compact
  generalize P.mergeSort (fun x y => decide (x ≤ y)) = L at hle hm ⊢
  have hsz : L.toArray.size = L.length := rfl
  have hget : ∀ (i : Nat) (hi : i < L.length), L.toArray[i]! = L[i] := fun i hi => by rw [getElem!_pos L.toArray i hi]; rfl
  refine asc_eq (fun a => Int.lt_irrefl a) (fun _ _ _ h k => Int.lt_trans h k) _ _ (compact_asc L.toArray fun i j hij hj => ?_) (set_asc (fun _ _ _ h k => Int.lt_trans h k) (fun a b h1 h2 => by omega) _) fun x => ?_
  · have hj' : j < L.length := hj
    rw [hget i (by omega), hget j hj']
    rcases Nat.lt_or_eq_of_le hij with h | h
    · exact List.pairwise_iff_getElem.1 hle i j (by omega) hj' h
    · subst h; exact Int.le_refl _
  · rw [← hsz, compact_mem, set_mem, ← hm x]
    constructor
    · rintro ⟨j, hj, e⟩
      have hj' : j < L.length := hj
      rw [hget j hj'] at e
      rw [← e]
      exact List.getElem_mem _
    · intro h
      obtain ⟨j, hj, e⟩ := List.getElem_of_mem h
      exact ⟨j, hj, by rw [hget j hj, e]⟩

end Go.Proofs.YtbnchnbblchmnaaDoor
