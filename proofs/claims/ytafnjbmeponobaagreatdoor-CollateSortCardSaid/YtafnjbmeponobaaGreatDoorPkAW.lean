/-
  The program's longest: the letter with the longest Text.
  Rows of the call's own beside other blocks: what keeps a row, append of a struct with the row alone changed.
  The reference's letter, capital, order, passes of collate.
-/
import Derived.Test.YtafnjbmeponobaaGreatDoorPkAL
import Derived.Test.YtafnjbmeponobaaGreatDoorPkAV
import Derived.Lib.MinMax
import Derived.BigQuiet
import Derived.Deep.LoopGhost
import Derived.WalkSmall
import Derived.Test.YtafnjbmeponobaaGreatDoorPkAJ
import Derived.Deep.RegionHeld3
namespace Go.Proofs.YtafnjbmeponobaaGreatDoor
open Go.RowKit

/-- A letter as the program keeps it: the characters of its Text, its weight. -/
def tlv (y : Value × Nat) : List Value := [y.1, .int .i64 (y.2 : Int)]
theorem tlv_len (y : Value × Nat) : (tlv y).length = 2 := rfl
/-- The letters of a tailoring as the program keeps them. -/
def Ltt (w : World) (B : Nat) (v : Value) (T : List LetL) : Prop :=
  ∃ ys : List (Value × Nat), SArr 2 tlv w B v ys ∧ ys.length = T.length ∧ ∀ (i : Nat) (y : Value × Nat) (x : LetL), ys[i]? = some y → T[i]? = some x → Arr nv w B y.1 x.1 ∧ y.2 = lwN x.2 + i + 1
theorem Ltt.below {w w' : World} {B : Nat} {v : Value} {T : List LetL} (h : Ltt w B v T) (hb : Below B w w') : Ltt w' B v T := by
  obtain ⟨ys, h1, h2, h3⟩ := h
  exact ⟨ys, h1.below hb, h2, fun i y x hy hx => ⟨(h3 i y x hy hx).1.below hb, (h3 i y x hy hx).2⟩⟩
theorem Ltt.more {w : World} {B B' : Nat} {v : Value} {T : List LetL} (h : Ltt w B v T) (hb : B ≤ B') : Ltt w B' v T := by
  obtain ⟨ys, h1, h2, h3⟩ := h
  exact ⟨ys, h1.more hb, h2, fun i y x hy hx => ⟨(h3 i y x hy hx).1.more hb, (h3 i y x hy hx).2⟩⟩
theorem Ltt.up {W w : World} {v : Value} {T : List LetL} (h : Ltt W W.heap.size v T) (hb : Below W.heap.size W w) : Ltt w w.heap.size v T := (h.below hb).more hb.size

theorem below_putL {w w' : World} {B k i : Nat} (h : Below B w w') (hk : B ≤ k) (v : Value) : Below B w (w'.setCell ⟨k, i, none⟩ v) :=
  ⟨h.os, h.tape, h.output, by rw [World.size_setCell]; exact h.size, fun j hj => (Below.heap_setCell w' ⟨k, i, none⟩ v j (by show j ≠ k; omega)).trans (h.block j hj)⟩

/-! In plain mathematics. -/
/-- Of the Texts that the small letters go on with, none is longer than n. -/
def NoLong (T : List LetL) (small : List Nat) (n : Nat) : Prop := ∀ y ∈ T, small.take y.1.length = y.1 → y.1.length ≤ n
theorem pass_small {ch y : List Nat} : passB ch y = true ↔ (ch.map lowN).take y.length = y := by rw [pass_iff, List.map_take]
theorem long_found {T : List LetL} (hT : LetOk T) {ch : List Nat} {k n : Nat} {x : LetL} (hx : T[k]? = some x) (he : x.1 = (ch.map lowN).take n) (hn : n ≤ ch.length) (h : NoLong T (ch.map lowN) n) : bestC T ch = some (k, x.1.length) := by
  have hl : x.1.length = n := by rw [he, List.length_take, List.length_map]; omega
  refine best_is hx (pass_small.2 (by rw [hl, he])) (hT.size x (List.mem_of_getElem? hx)).1 fun i y hy hp => ?_
  have h1 := h y (List.mem_of_getElem? hy) (pass_small.1 hp)
  rw [hl]
  rcases Nat.lt_or_ge y.1.length n with h2 | h2
  · exact .inr h2
  · refine .inl (hT.dist i k y x hy hx ?_)
    have h3 : y.1.length = n := by omega
    have h4 := pass_small.1 hp
    rw [h3] at h4
    rw [he, h4]
theorem long_none {T : List LetL} {ch : List Nat} (h : NoLong T (ch.map lowN) 0) : bestC T ch = none :=
  best_is_none fun y hy hp => Nat.le_zero.1 (h y hy (pass_small.1 hp))
theorem long_start {T : List LetL} (hT : LetOk T) (small : List Nat) : NoLong T small (min 4 small.length) := by
  intro y hy h
  have h1 := (hT.size y hy).2
  have h2 := congrArg List.length h
  rw [List.length_take] at h2
  omega
/-- None of the first k Texts is what the small letters begin with. -/
def NoHit (T : List LetL) (s : List Nat) (k : Nat) : Prop := ∀ y ∈ T.take k, y.1 ≠ s
theorem noHit_next {T : List LetL} {s : List Nat} {k : Nat} {x : LetL} (h : NoHit T s k) (hx : T[k]? = some x) (hne : x.1 ≠ s) : NoHit T s (k + 1) := by
  intro y hy
  rw [take_next hx] at hy
  rcases List.mem_append.1 hy with hy | hy
  · exact h y hy
  · rw [List.mem_singleton.1 hy]; exact hne
theorem long_next {T : List LetL} {small : List Nat} {n : Nat} (h : NoLong T small (n + 1)) (hh : NoHit T (small.take (n + 1)) T.length) : NoLong T small n := by
  intro y hy hp
  have h1 := h y hy hp
  rcases Nat.lt_or_ge y.1.length (n + 1) with h2 | h2
  · omega
  · exfalso
    have h3 : y.1.length = n + 1 := by omega
    rw [h3] at hp
    exact hh y (by rw [List.take_of_length_le (Nat.le_refl _)]; exact hy) hp.symm
/-- What longest returns. -/
def LongEnd (w : World) (T : List LetL) (ch : List Nat) (v : Value) (p : Int) (ok : Bool) : Prop :=
  (ok = false ∧ bestC T ch = none) ∨ (ok = true ∧ ∃ (k : Nat) (x : LetL), T[k]? = some x ∧ bestC T ch = some (k, x.1.length) ∧ Arr nv w w.heap.size v x.1 ∧ p = ((lwN x.2 + k + 1 : Nat) : Int))

set_option maxRecDepth 100000 in
set_option maxHeartbeats 6400000 in
theorem longest_any (A : Option Addr) (n c : Nat) (A' : Option Addr) (m c' : Nat) (T : List LetL) (ch : List Nat) (w : World) (h : Ltt w w.heap.size (.slice A n c) T) (hA : Arr nv w w.heap.size (.slice A' m c') (ch.map lowN)) (hT : LetOk T) (hm : m ≤ 1000000) :
    Calls Tryz.prog 77 #[.slice A n c, .slice A' m c'] w fun e w' => (∃ Av mv cv p ok, e = .returned (.tuple #[.agg #[.slice Av mv cv, .int .i64 p], .bool ok]) ∧ LongEnd w T ch (.slice Av mv cv) p ok) ∧ Below w.heap.size w w' := by
  obtain ⟨ys, h1, h2, h3⟩ := h
  have hyl := h1.len
  have hT40 := hT.few
  have HTl : Hid (T.length = n) := Lib.hid (by rw [← h2, hyl])
  have HYl : Hid (ys.length = n) := Lib.hid hyl
  have hn40 : n ≤ 40 := by have := HTl.out; omega
  have HT := Lib.hid hT
  have HAl : Hid (ch.length = m) := Lib.hid (by have := hA.len; rwa [List.length_map] at this)
  have H3 := Lib.hid h3
  have HAr := Lib.hid hA
  have hcap := hA.cap
  obtain ⟨N, hN⟩ : ∃ N, min 4 m = N := ⟨_, rfl⟩
  have hmin : min (4 : Int) (m : Int) = (N : Int) := by omega
  have HN : Hid (NoLong T (ch.map lowN) N) := Lib.hid (by have := long_start hT (ch.map lowN); rw [List.length_map, HAl.out, hN] at this; exact this)
  have hNm : N ≤ m := by omega
  have hbd1 : Below w.heap.size w (w.alloc (.cells #[.slice none 0 0, .int .i64 0] 93)) := (Below.refl _ _).alloc (Nat.le_refl _) _
  have hBox0 := Box.made w 93 #[.slice none 0 0, .int .i64 0]
  obtain ⟨wd, hwd⟩ : ∃ wd, w.alloc (.cells #[.slice none 0 0, .int .i64 0] 93) = wd := ⟨_, rfl⟩
  have hsd : wd.heap.size = w.heap.size + 1 := by rw [← hwd]; simp
  rw [hwd] at hbd1 hBox0
  clear hT h3 hyl h2 hT40 hN hA
  go_enter Tryz.func77, Tryz.ntmps77
  go_wp2
  go_step3
  go_wp2
  go_step3
  go_wp2
  go_loopg [5, 6] N (fun g1 s5 s6 wr => s5 = .bool false ∧ s6 = .int .i64 (g1 : Int) ∧ g1 ≤ N ∧ Hid (NoLong T (ch.map lowN) g1) ∧ Box wr w.heap.size 93 #[.slice none 0 0, .int .i64 0] ∧ Below w.heap.size w wr)
  case atStart => exact ⟨rfl, rfl, Nat.le_refl _, HN, hBox0, hbd1⟩
  case round =>
    obtain ⟨rfl, rfl, hgN, HNo, hbox, hb⟩ := hrel
    have hbxl := hbox.lt
    by_cases h0 : gk = 0
    · subst h0
      have HE := Lib.hid (long_none HNo.out)
      have c0 : wr.cell? ⟨w.heap.size, 0, none⟩ = some (.slice none 0 0) := by rw [hbox.cell]; rfl
      have c1 : wr.cell? ⟨w.heap.size, 1, none⟩ = some (.int .i64 0) := by rw [hbox.cell]; rfl
      have f0 : wr.frozen? ⟨w.heap.size, 0, none⟩ = false := hbox.free 0
      have f1 : wr.frozen? ⟨w.heap.size, 1, none⟩ = false := hbox.free 1
      go_wp2
      (try rw [Exit.noGoto_ret])
      refine bodyPost_ret (v := .tuple #[.agg #[.slice none 0 0, .int .i64 0], .bool false]) (by simp [results, Tryz.results77, go_sem, c0, c1]) rfl ?_
      exact ⟨⟨_, _, _, _, _, rfl, .inl ⟨rfl, HE.out⟩⟩, below_putL (below_putL hb (Nat.le_refl _) _) (Nat.le_refl _) _⟩
    · obtain ⟨g2, rfl⟩ : ∃ g2, gk = g2 + 1 := ⟨gk - 1, by omega⟩
      have t0 : decide (((g2 + 1 : Nat) : Int) > 0) = true := by simp
      have hum : g2 + 1 ≤ 4 := by omega
      have hum2 : g2 + 1 ≤ m := by omega
      have hg2N : g2 ≤ N := by omega
      have hg2 : g2 + 1 ≤ c' := by omega
      have HH := Lib.hid (HAr.out.head (show g2 + 1 ≤ m by omega))
      have hsl : ∀ W, (Instr.sliceAt 34 (.slice A' m c') none (some (.int .i64 ((g2 + 1 : Nat) : Int))) none).run Tryz.prog W = .ok (.slice A' (g2 + 1) c') W := fun W => head_ints A' m c' (g2 + 1) hg2 W
      obtain ⟨u, hu⟩ : ∃ u, g2 + 1 = u := ⟨_, rfl⟩
      rw [hu] at HH hsl hg2 t0 HNo hum hum2
      have HU := Lib.hid hu
      have t0' : decide ((0 : Int) < (u : Int)) = true := by simp; omega
      have t0n : decide (0 < u) = true := by simp; omega
      have s1 : IntKind.i64.wrap ((u : Int) - 1) = ((g2 : Nat) : Int) := by rw [wraps_i64 _ (by omega) (by omega)]; omega
      clear h0
      rw [hu] 
      clear hu
      go_wp2
      go_loopg [5, 18] n (fun g3 s5 s18 wi => ∃ k : Nat, k + g3 = n ∧ s5 = .bool false ∧ s18 = .int .i64 (k : Int) ∧ Hid (NoHit T ((ch.map lowN).take u) k) ∧ Box wi w.heap.size 93 #[.slice none 0 0, .int .i64 0] ∧ Below w.heap.size w wi)
      case atStart => exact ⟨0, Nat.zero_add _, rfl, rfl, Lib.hid (fun y hy => by simp at hy), hbox, hb⟩
      case round =>
        clear hbox hb hbxl
        obtain ⟨k, hkg, rfl, rfl, HHit, hbox, hb⟩ := hrel
        have hbxl := hbox.lt
        by_cases hlt : k < n
        · obtain ⟨g4, rfl⟩ : ∃ g4, gk = g4 + 1 := ⟨gk - 1, by omega⟩
          have t1 : decide ((k : Int) < (n : Int)) = true := by simp; omega
          have kz : (k : Int) < (n : Int) := by omega
          obtain ⟨b0, o0, rfl, hB0, hc0⟩ := h1.some_ tlv_len (by decide) (by omega)
          obtain ⟨y, hy⟩ : ∃ y, ys[k]? = some y := ⟨_, List.getElem?_eq_getElem (by have := HYl.out; omega)⟩
          obtain ⟨x, hx⟩ : ∃ x, T[k]? = some x := ⟨_, List.getElem?_eq_getElem (by have := HTl.out; omega)⟩
          have d0 := (hb.cell (p := ⟨b0, o0 + k * 2, none⟩) hB0).trans (hc0 k y hy 0 _ rfl)
          have d1 := (hb.cell (p := ⟨b0, o0 + k * 2 + 1, none⟩) hB0).trans (hc0 k y hy 1 _ rfl)
          obtain ⟨hAy, hpy⟩ := H3.out k y x hy hx
          obtain ⟨yv, p⟩ := y
          obtain ⟨Ay, cy, hyv⟩ := hAy.form
          simp only at hyv hpy d0 d1 hAy
          subst hyv
          have hxl := (HT.out.size x (List.mem_of_getElem? hx)).2
          have HX := Lib.hid hx
          have HAy := Lib.hid hAy
          obtain ⟨ny, hny⟩ : ∃ ny, x.1.length = ny := ⟨_, rfl⟩
          have HNy := Lib.hid hny
          rw [hny] at d0 HAy hxl
          have HP := Lib.hid hpy
          have HE := Lib.hid (fun (W : World) (hW : Below w.heap.size w W) => slEqual_any Ay ny cy A' u c' x.1 ((ch.map lowN).take u) W (HAy.out.up hW) (HH.out.up hW) (by omega) (by omega))
          have hbV : Below w.heap.size w (wr.alloc (.cells #[.slice Ay ny cy, .int .i64 (p : Int)] 93)) := below_new hb _
          have e0 : (wr.alloc (.cells #[.slice Ay ny cy, .int .i64 (p : Int)] 93)).cell? ⟨wr.heap.size, 0, none⟩ = some (.slice Ay ny cy) := by simp
          have e1 : (wr.alloc (.cells #[.slice Ay ny cy, .int .i64 (p : Int)] 93)).cell? ⟨wr.heap.size, 1, none⟩ = some (.int .i64 (p : Int)) := by simp
          have hboxV := hbox.alloc (.cells #[.slice Ay ny cy, .int .i64 (p : Int)] 93)
          have c0 : (wr.alloc (.cells #[.slice Ay ny cy, .int .i64 (p : Int)] 93)).cell? ⟨w.heap.size, 0, none⟩ = some (.slice none 0 0) := by rw [hboxV.cell]; rfl
          have c1 : (wr.alloc (.cells #[.slice Ay ny cy, .int .i64 (p : Int)] 93)).cell? ⟨w.heap.size, 1, none⟩ = some (.int .i64 0) := by rw [hboxV.cell]; rfl
          have f0 : (wr.alloc (.cells #[.slice Ay ny cy, .int .i64 (p : Int)] 93)).frozen? ⟨w.heap.size, 0, none⟩ = false := hboxV.free 0
          have f1 : (wr.alloc (.cells #[.slice Ay ny cy, .int .i64 (p : Int)] 93)).frozen? ⟨w.heap.size, 1, none⟩ = false := hboxV.free 1
          clear hc0 hy hx hAy hny hpy
          obtain ⟨R, hR⟩ : ∃ R, decide (x.1 = (ch.map lowN).take u) = R := ⟨_, rfl⟩
          rw [hR] at HE
          cases R with
          | true =>
            have HF := Lib.hid (long_found HT.out HX.out (of_decide_eq_true hR) (by rw [HAl.out]; exact hum2) HNo.out)
            clear hR
            go_wp2
            go_big_quiet (first | (go_at_call 79; refine (HE.out _ (below_drewN hbV _)).mono ?_; rintro e w7 ⟨rfl, q, rfl⟩; exact ⟨rfl, _, World.drewN_drewN _ _ _⟩))
            go_wp2
            have hF := ((((hboxV.drewN nq).put 0 (.slice Ay ny cy)).put 1 (.int .i64 (p : Int))).put 0 (.slice Ay ny cy)).put 1 (.int .i64 (p : Int))
            have k0 := hF.cell 0
            have k1 := hF.cell 1
            simp only [Array.setIfInBounds, List.size_toArray, List.length_cons, List.length_nil] at k0 k1
            (try rw [Exit.noGoto_ret])
            refine bodyPost_ret (v := .tuple #[.agg #[.slice Ay ny cy, .int .i64 (p : Int)], .bool true]) (by simp [results, Tryz.results77, go_sem, k0, k1]) rfl ?_
            exact ⟨⟨_, _, _, _, _, rfl, .inr ⟨rfl, k, x, HX.out, HF.out, HAy.out, by rw [HP.out]⟩⟩, below_putL (below_putL (below_putL (below_putL (below_drewN hbV _) (Nat.le_refl _) _) (Nat.le_refl _) _) (Nat.le_refl _) _) (Nat.le_refl _) _⟩
          | false =>
            have HHit2 := Lib.hid (noHit_next HHit.out HX.out (of_decide_eq_false hR))
            clear hR
            go_wp2
            go_big_quiet (first | (go_at_call 79; refine (HE.out _ (below_drewN hbV _)).mono ?_; rintro e w7 ⟨rfl, q, rfl⟩; exact ⟨rfl, _, World.drewN_drewN _ _ _⟩))
            go_wp2
            go_roundg g4
            case measure => omega
            case rel => exact ⟨k + 1, by omega, rfl, by go_num, HHit2, hboxV.drewN _, below_drewN hbV _⟩
        · obtain rfl : k = n := by omega
          have t1 : decide ((k : Int) < (k : Int)) = false := by simp
          have t1' : decide (k < k) = false := by simp
          have HNo2 : Hid (NoLong T (ch.map lowN) g2) := Lib.hid (by
            have h5 := HNo.out
            rw [← HU.out] at h5
            refine long_next h5 ?_
            rw [HU.out, HTl.out]
            exact HHit.out)
          go_wp2
          go_roundg g2
          case measure => have := HU.out; omega
          case rel => exact ⟨rfl, rfl, hg2N, HNo2, hbox, hb⟩

end Go.Proofs.YtafnjbmeponobaaGreatDoor

namespace Go.Proofs.YtafnjbmeponobaaGreatDoor
open Go.RowKit

theorem own_blockG {w : World} {base e size n : Nat} {v : Value} {xs : List Value} (h : w.ownsRow base e size v n xs) {g : Nat} (hg : v.ownBlock = some g) : base ≤ g ∧ ∃ cur, w.heap[g]? = some (.cells cur e (0, 0)) := by
  rcases h.2 with ⟨rfl, _⟩ | ⟨g', cap, cur, rfl, hb, hx, _⟩
  · cases hg
  · simp only [Value.ownBlock, Option.some.injEq] at hg
    subst hg
    exact ⟨hb, cur, hx⟩
theorem own_sameG {w w' : World} {base e size n : Nat} {v : Value} {xs : List Value} (h : w.ownsRow base e size v n xs) (hk : ∀ g, v.ownBlock = some g → w'.heap[g]? = w.heap[g]?) : w'.ownsRow base e size v n xs := by
  refine ⟨h.1, ?_⟩
  rcases h.2 with h0 | ⟨g, cap, cur, hv, hb, hx, rest⟩
  · exact .inl h0
  · exact .inr ⟨g, cap, cur, hv, hb, (hk g (by rw [hv]; rfl)).trans hx, rest⟩
theorem own_iterG {w : World} {base e size n : Nat} {v : Value} {xs : List Value} (h : w.ownsRow base e size v n xs) {k pos : Nat} {s : ByteArray} (hk : w.heap[k]? = some (.stringIter s pos)) (pos' : Nat) : (w.iterAt k s pos').ownsRow base e size v n xs :=
  own_sameG h fun g hg => by
    obtain ⟨_, cur, hx⟩ := own_blockG h hg
    refine Lib.iterAt_other w k g s pos' (fun e => ?_)
    subst e
    rw [hk] at hx
    cases hx
/-- A row of another kind of elements stays. -/
theorem own_apart {w w' : World} {base base' e e' size size' n n' : Nat} {v v' : Value} {xs xs' : List Value} (h : w.ownsRow base e size v n xs) (h' : w.ownsRow base' e' size' v' n' xs') (hne : e ≠ e') (hg : w.grownBy w' v'.ownBlock) : w'.ownsRow base e size v n xs :=
  own_sameG h fun g hv => by
    obtain ⟨_, cur, hx⟩ := own_blockG h hv
    refine hg.block g (Array.getElem?_eq_some_iff.1 hx).1 fun e2 => ?_
    obtain ⟨_, cur2, hx2⟩ := own_blockG h' e2.symm
    rw [hx] at hx2
    injection hx2 with h1
    injection h1 with _ h2
    exact hne h2
theorem box_apart {w w' : World} {base' e' size' n' k : Nat} {t : TypeId} {cs : Array Value} {v' : Value} {xs' : List Value} (h : Box w k t cs) (h' : w.ownsRow base' e' size' v' n' xs') (hne : t ≠ e') (hg : w.grownBy w' v'.ownBlock) : Box w' k t cs := by
  refine (hg.block k h.lt fun e2 => ?_).trans h
  obtain ⟨_, cur2, hx2⟩ := own_blockG h' e2.symm
  unfold Box at h
  rw [h] at hx2
  injection hx2 with h1
  injection h1 with _ h2
  exact hne h2
theorem iter_apart {w w' : World} {base' e' size' n' k pos : Nat} {s : ByteArray} {v' : Value} {xs' : List Value} (h : w.heap[k]? = some (.stringIter s pos)) (h' : w.ownsRow base' e' size' v' n' xs') (hg : w.grownBy w' v'.ownBlock) : w'.heap[k]? = some (.stringIter s pos) := by
  refine (hg.block k (Array.getElem?_eq_some_iff.1 h).1 fun e2 => ?_).trans h
  obtain ⟨_, cur2, hx2⟩ := own_blockG h' e2.symm
  rw [h] at hx2
  cases hx2
section
variable {α : Type} {sz : Nat} {val : α → List Value}
/-- append(s, y) of one struct, the new world by what is left as it was. -/
theorem append_struct_g {P : Program} (t e : TypeId) (z : Value) (bytes : Nat) (ht : P.underlying t = some (.slice e)) (info : (P.info? e).map (fun i => (i.zero, i.size, i.bytes)) = some (some z, sz, bytes))
    (hzs : z.cells.size = sz) (hs0 : 0 < sz) (hbytes : bytes ≤ 100) (hv : ∀ x, (val x).length = sz) (hval : ∀ x, ∀ u ∈ val x, u.oneCell' = true)
    {ops : Array Oper} {rest : List Oper} {o : Oper} {a : Act} {Q : Exit → Act → World → Prop} (w : World) (hgd : o.guard = none) (s x : Operand)
    (ho : o.op = .call { callee := .builtin .append, args := #[s, x], argTypes := #[t, t] })
    (base : Nat) (v : Value) (xs : List α) (hs : a.eval s = v) (hown : w.ownsRow base e sz v xs.length (xs.flatMap val)) (y : α) (u : Array Value) (hu : u = (val y).toArray) (N : Nat) (hN : w.heap.size = N)
    (hx : a.eval x = .slice (some ⟨N, 0, none⟩) 1 1) (hlen : xs.length ≤ 1000000000000 - 1) (hbase : base ≤ w.heap.size)
    (h : ∀ v' w', w'.ownsRow base e sz v' (xs ++ [y]).length ((xs ++ [y]).flatMap val) → w.grownBy w' v.ownBlock → wpList P ops Q rest (a.put o.dst v') w') : wpList P ops Q (o :: rest) a (w.alloc (.cells u e)) := by
  obtain ⟨i0, hi, hz0, hz1, hz2⟩ := info_parts info
  subst hu hN
  have hown1 : (w.alloc (.cells (val y).toArray e)).ownsRow base e sz v xs.length (xs.flatMap val) := own_keep_below hown ((Below.refl _ _).alloc (Nat.le_refl _) _)
  have hcell : ∀ j u, (val y)[j]? = some u → (w.alloc (.cells (val y).toArray e)).cell? ((⟨w.heap.size, 0, none⟩ : Addr).add j) = some u := by
    intro j u hu
    rw [plain_add, (Box.made w e (val y).toArray).cell]
    simpa using hu
  have hb0 : w.grownBy (w.alloc (.cells (val y).toArray e)) v.ownBlock := grown_of_below _ ((Below.refl _ _).alloc (Nat.le_refl _) _)
  refine wpList_append_own (w := w.alloc (.cells (val y).toArray e)) hgd s x t ho base e i0 z sz bytes ht hi hz0 hz1 hz2 hzs hs0 v xs.length (xs.flatMap val) hs hown1 ⟨w.heap.size, 0, none⟩ 1 1 (val y) hx (by rw [hv, Nat.one_mul]) hcell (hval y)
    (by unfold maxLen; omega) (by have := Nat.mul_le_mul (show xs.length + 1 ≤ 1000000000000 by omega) hbytes; omega) (by simp; omega) ?_
  intro v' w' h1 h2 _
  exact h v' w' (by rw [List.length_append, List.flatMap_append]; simpa using h1) (grown_trans hb0 h2)
/-- The same as a step of a region that draws its order. -/
theorem step_struct_g {P : Program} (t e : TypeId) (z : Value) (bytes : Nat) (ht : P.underlying t = some (.slice e)) (info : (P.info? e).map (fun i => (i.zero, i.size, i.bytes)) = some (some z, sz, bytes))
    (hzs : z.cells.size = sz) (hs0 : 0 < sz) (hbytes : bytes ≤ 100) (hv : ∀ x, (val x).length = sz) (hval : ∀ x, ∀ u ∈ val x, u.oneCell' = true)
    {ops : Array Oper} {o : Oper} {a : Act} {K : Act → World → Prop} {Q : Exit → Act → World → Prop} {E : Prop} (w : World) (hgd : o.guard = none) (s x : Operand)
    (ho : o.op = .call { callee := .builtin .append, args := #[s, x], argTypes := #[t, t] })
    (base : Nat) (v : Value) (xs : List α) (hs : a.eval s = v) (hown : w.ownsRow base e sz v xs.length (xs.flatMap val)) (y : α) (ad : Addr)
    (hx : a.eval x = .slice (some ad) 1 1) (hcell : ∀ j u, (val y)[j]? = some u → w.cell? (ad.add j) = some u) (hlen : xs.length ≤ 1000000000000 - 1) (hbase : base ≤ w.heap.size)
    (h : ∀ v' w', w'.ownsRow base e sz v' (xs ++ [y]).length ((xs ++ [y]).flatMap val) → w.grownBy w' v.ownBlock → K (a.put o.dst v') w') :
    if Region.wanted o (yielded ops a.tmps) = true then Oper.wp P o a w K Q else E := by
  have hw : Region.wanted o (yielded ops a.tmps) = true := by simp [Region.wanted, hgd]
  rw [if_pos hw]
  obtain ⟨i0, hi, hz0, hz1, hz2⟩ := info_parts info
  refine wp_append_own w s x t ho base e i0 z sz bytes ht hi hz0 hz1 hz2 hzs hs0 v xs.length (xs.flatMap val) hs hown ad 1 1 (val y) hx (by rw [hv, Nat.one_mul]) hcell (hval y)
    (by unfold maxLen; omega) (by have := Nat.mul_le_mul (show xs.length + 1 ≤ 1000000000000 by omega) hbytes; omega) hbase ?_
  intro v' w' h1 h2 _
  exact h v' w' (by rw [List.length_append, List.flatMap_append]; simpa using h1) h2
end
theorem below_own {w w' : World} {base e size n : Nat} {v : Value} {xs : List Value} (hown : w.ownsRow base e size v n xs) (hbase : base ≤ w.heap.size) (hg : w.grownBy w' v.ownBlock) : Below base w w' :=
  (Below.refl _ _).grown hg hbase fun _ hk => (own_blockG hown hk).1

end Go.Proofs.YtafnjbmeponobaaGreatDoor

namespace Go.Proofs.YtafnjbmeponobaaGreatDoor
open Go.RowKit

set_option maxRecDepth 20000 in
set_option maxHeartbeats 1600000 in
theorem refLetter_any (c : Nat) (w : World) :
    Calls Tryz.prog 39 #[.int .i64 (c : Int)] w fun e w' => e = .returned (.bool (Nat.beq (kN c) 1)) ∧ ∃ q, w' = w.drewN q := by
  have HC := Lib.hid (class_any (c : Int) w)
  have hk : (clsR (c : Int)).2 = kN c := by rw [clsF_eq]; rfl
  rw [hk] at HC
  unfold two at HC
  obtain ⟨s, hs⟩ : ∃ s, (clsR (c : Int)).1 = s := ⟨_, rfl⟩
  rw [hs] at HC
  obtain ⟨k, hkk⟩ : ∃ k, kN c = k := ⟨_, rfl⟩
  rw [hkk] at HC ⊢
  clear hk hs hkk
  by_cases h : k = 1
  · subst h
    go_enter Tryz.func39, Tryz.ntmps39
    go_wp2_with fail
    refine HC.out.mono ?_
    rintro e w1 ⟨rfl, q, rfl⟩
    go_wp2
    go_ret
    exact ⟨rfl, q, rfl⟩
  · have t1 : ((k : Int) == 1) = false := eqb_false (by omega)
    rw [beq_false h]
    go_enter Tryz.func39, Tryz.ntmps39
    go_wp2_with fail
    refine HC.out.mono ?_
    rintro e w1 ⟨rfl, q, rfl⟩
    go_wp2
    go_ret
    exact ⟨rfl, q, rfl⟩

set_option maxRecDepth 20000 in
set_option maxHeartbeats 1600000 in
theorem refCapital_any (c : Nat) (w : World) :
    Calls Tryz.prog 75 #[.int .i64 (c : Int)] w fun e w' => e = .returned (.int .i64 (capN c : Int)) ∧ Below w.heap.size w w' := by
  have HL := Lib.hid (refLower_nat c w)
  unfold capN
  obtain ⟨l, hl⟩ : ∃ l, lowN c = l := ⟨_, rfl⟩
  rw [hl] at HL ⊢
  clear hl
  by_cases h : l = c
  · subst h
    have t1 : ((l : Int) != (l : Int)) = false := by simp
    rw [if_pos (beq_of rfl)]
    go_enter Tryz.func75, Tryz.ntmps75
    go_wp2_with fail
    refine HL.out.mono ?_
    rintro e w1 ⟨rfl, k1⟩
    go_wp2
    go_ret
    exact ⟨rfl, k1⟩
  · have t1 : ((l : Int) != (c : Int)) = true := by simp; omega
    rw [if_neg (by rw [beq_false h]; exact Bool.false_ne_true)]
    go_enter Tryz.func75, Tryz.ntmps75
    go_wp2_with fail
    refine HL.out.mono ?_
    rintro e w1 ⟨rfl, k1⟩
    go_wp2
    go_ret
    exact ⟨rfl, k1⟩

theorem ordL_drop {xs ys : List Nat} {k : Nat} (h : xs.take k = ys.take k) : ordL xs ys = ordL (xs.drop k) (ys.drop k) := by
  conv => lhs; rw [← List.take_append_drop k xs, ← List.take_append_drop k ys, h]
  exact ordL_app _ _ _
theorem dropK_at {l : List Nat} {k x : Nat} (h : l[k]? = some x) : l.drop k = x :: l.drop (k + 1) := by
  obtain ⟨h1, h2⟩ := List.getElem?_eq_some_iff.1 h
  rw [List.drop_eq_getElem_cons h1, h2]

set_option maxRecDepth 20000 in
set_option maxHeartbeats 6400000 in
theorem refOrder_any (A B : Option Addr) (n c m d : Nat) (xs ys : List Nat) (w : World) (hx : Arr nv w w.heap.size (.slice A n c) xs) (hy : Arr nv w w.heap.size (.slice B m d) ys) (hn : n ≤ 1000000000) :
    Calls Tryz.prog 48 #[.slice A n c, .slice B m d] w fun e w' => e = .returned (.int .i64 (ordL xs ys)) ∧ Below w.heap.size w w' := by
  have HXl := Lib.hid hx.len
  have HYl := Lib.hid hy.len
  obtain ⟨R, hR⟩ : ∃ R, ordL xs ys = R := ⟨_, rfl⟩
  rw [hR]
  have HR := Lib.hid hR
  clear hR
  go_enter Tryz.func48, Tryz.ntmps48
  go_wp2
  go_loopw [5] (fun i wr => ∃ k : Nat, k ≤ n ∧ k ≤ m ∧ i = .int .i64 (k : Int) ∧ Hid (xs.take k = ys.take k) ∧ Below w.heap.size w wr) (fun i _ => n - (intOf i).toNat)
  case atStart => exact ⟨0, Nat.zero_le _, Nat.zero_le _, rfl, Lib.hid rfl, Below.refl _ _⟩
  case round =>
    obtain ⟨k, hkn, hkm, rfl, HT, hb⟩ := hrel
    by_cases h1 : k < n
    · have t1 : decide ((k : Int) < (n : Int)) = true := by simp; omega
      have t1' : decide (k < n) = true := by simpa using h1
      have z1 : (k : Int) < (n : Int) := by omega
      by_cases h2 : k < m
      · have t2 : decide ((k : Int) < (m : Int)) = true := by simp; omega
        have t2' : decide (k < m) = true := by simpa using h2
        have z2 : (k : Int) < (m : Int) := by omega
        obtain ⟨a0, o0, rfl, hA0, hca⟩ := hx.some_ (by omega)
        obtain ⟨b0, p0, rfl, hB0, hcb⟩ := hy.some_ (by omega)
        obtain ⟨x, hxk⟩ : ∃ x, xs[k]? = some x := ⟨_, List.getElem?_eq_getElem (by rw [HXl.out]; exact h1)⟩
        obtain ⟨y, hyk⟩ : ∃ y, ys[k]? = some y := ⟨_, List.getElem?_eq_getElem (by rw [HYl.out]; exact h2)⟩
        have d0 : wr.cell? ⟨a0, o0 + k, none⟩ = some (.int .i64 (x : Int)) := (hb.cell (p := ⟨a0, o0 + k, none⟩) hA0).trans (hca k x hxk)
        have d1 : wr.cell? ⟨b0, p0 + k, none⟩ = some (.int .i64 (y : Int)) := (hb.cell (p := ⟨b0, p0 + k, none⟩) hB0).trans (hcb k y hyk)
        have hO := ordL_drop HT.out
        rw [dropK_at hxk, dropK_at hyk, ordL_cons, HR.out] at hO
        rcases Nat.lt_trichotomy x y with h3 | h3 | h3
        · have t3 : decide ((x : Int) < (y : Int)) = true := by simp; omega
          have t3' : decide (x < y) = true := by simpa using h3
          have HE : Hid (R = -1) := Lib.hid (by rw [hO, if_pos h3])
          clear hca hcb hxk hyk hO h3
          go_wp2
          go_quiet (fail)
          go_wp2
          go_ret
          rw [HE.out]
          exact ⟨rfl, below_drewN hb _⟩
        · subst h3
          have t3 : decide ((x : Int) < (x : Int)) = false := by simp
          have t3' : decide (x < x) = false := by simp
          have HT2 : Hid (xs.take (k + 1) = ys.take (k + 1)) := Lib.hid (by rw [take_next hxk, take_next hyk, HT.out])
          clear hca hcb hxk hyk hO
          go_wp2
          go_quiet (fail)
          go_wp2
          go_quiet (fail)
          go_wp2
          go_roundw
          case rel => exact ⟨k + 1, by omega, by omega, by go_num, HT2, below_drewN hb _⟩
          case measure => simp [intOf]; omega
        · have t3 : decide ((x : Int) < (y : Int)) = false := by simp; omega
          have t3' : decide (x < y) = false := by simp; omega
          have t4 : decide ((y : Int) < (x : Int)) = true := by simp; omega
          have t4' : decide (y < x) = true := by simpa using h3
          have HE : Hid (R = 1) := Lib.hid (by rw [hO, if_neg (by omega), if_pos h3])
          clear hca hcb hxk hyk hO h3
          go_wp2
          go_quiet (fail)
          go_wp2
          go_quiet (fail)
          go_wp2
          go_ret
          rw [HE.out]
          exact ⟨rfl, below_drewN (below_drewN hb _) _⟩
      · obtain rfl : k = m := by omega
        have t2 : decide ((k : Int) < (k : Int)) = false := by simp
        have t2' : decide (k < k) = false := by simp
        have t5 : decide ((n : Int) < (k : Int)) = false := by simp; omega
        have t5' : decide (n < k) = false := by simp; omega
        have t6 : decide ((k : Int) < (n : Int)) = true := by simp; omega
        have HE : Hid (R = 1) := Lib.hid (by
          have hO := ordL_drop HT.out
          rw [HR.out] at hO
          obtain ⟨x, hxk⟩ : ∃ x, xs[k]? = some x := ⟨_, List.getElem?_eq_getElem (by rw [HXl.out]; exact h1)⟩
          rw [hO, dropK_at hxk, List.drop_of_length_le (l := ys) (by rw [HYl.out]; exact Nat.le_refl _)]
          rfl)
        go_wp2
        go_ret
        rw [HE.out]
        exact ⟨rfl, hb⟩
    · obtain rfl : k = n := by omega
      have t1 : decide ((k : Int) < (k : Int)) = false := by simp
      have t1' : decide (k < k) = false := by simp
      have hO := ordL_drop HT.out
      rw [HR.out, List.drop_of_length_le (l := xs) (by rw [HXl.out]; exact Nat.le_refl _)] at hO
      by_cases h2 : k < m
      · have t2 : decide ((k : Int) < (m : Int)) = true := by simp; omega
        have t2' : decide (k < m) = true := by simpa using h2
        have HE : Hid (R = -1) := Lib.hid (by
          obtain ⟨y, hyk⟩ : ∃ y, ys[k]? = some y := ⟨_, List.getElem?_eq_getElem (by rw [HYl.out]; exact h2)⟩
          rw [hO, dropK_at hyk]
          rfl)
        clear hO
        go_wp2
        go_ret
        rw [HE.out]
        exact ⟨rfl, hb⟩
      · obtain rfl : k = m := by omega
        have HE : Hid (R = 0) := Lib.hid (by
          rw [hO, List.drop_of_length_le (by rw [HYl.out]; exact Nat.le_refl _)]
          rfl)
        clear hO
        go_wp2
        go_ret
        rw [HE.out]
        exact ⟨rfl, hb⟩

set_option maxRecDepth 20000 in
set_option maxHeartbeats 6400000 in
theorem refPasses_any (A B : Option Addr) (n c m d : Nat) (xs ys : List Nat) (w : World) (hx : Arr nv w w.heap.size (.slice A n c) xs) (hy : Arr nv w w.heap.size (.slice B m d) ys) (hm : m ≤ 1000000000) :
    Calls Tryz.prog 73 #[.slice A n c, .slice B m d] w fun e w' => e = .returned (.bool (passB xs ys)) ∧ Below w.heap.size w w' := by
  have HXl := Lib.hid hx.len
  have HYl := Lib.hid hy.len
  obtain ⟨R, hR⟩ : ∃ R, passB xs ys = R := ⟨_, rfl⟩
  rw [hR]
  have HR := Lib.hid hR
  clear hR
  by_cases h0 : n < m
  · have t0 : decide ((n : Int) < (m : Int)) = true := by simp; omega
    have t0' : decide (n < m) = true := by simpa using h0
    have HE : Hid (R = false) := Lib.hid (by
      rw [← HR.out]
      cases hp : passB xs ys with
      | false => rfl
      | true => have := pass_short hp; rw [HXl.out, HYl.out] at this; omega)
    go_enter Tryz.func73, Tryz.ntmps73
    go_wp2
    go_ret
    rw [HE.out]
    exact ⟨rfl, Below.refl _ _⟩
  have t0 : decide ((n : Int) < (m : Int)) = false := by simp; omega
  have t0' : decide (n < m) = false := by simpa using h0
  go_enter Tryz.func73, Tryz.ntmps73
  go_wp2
  go_loopw [5] (fun i wr => ∃ k : Nat, k ≤ m ∧ i = .int .i64 (k : Int) ∧ Hid ((xs.take k).map lowN = ys.take k) ∧ Below w.heap.size w wr) (fun i _ => m - (intOf i).toNat)
  case atStart => exact ⟨0, Nat.zero_le _, rfl, Lib.hid rfl, Below.refl _ _⟩
  case round =>
    obtain ⟨k, hkm, rfl, HT, hb⟩ := hrel
    by_cases h1 : k < m
    · have t1 : decide ((k : Int) < (m : Int)) = true := by simp; omega
      have t1' : decide (k < m) = true := by simpa using h1
      have z1 : (k : Int) < (m : Int) := by omega
      have z2 : (k : Int) < (n : Int) := by omega
      obtain ⟨a0, o0, rfl, hA0, hca⟩ := hx.some_ (by omega)
      obtain ⟨b0, p0, rfl, hB0, hcb⟩ := hy.some_ (by omega)
      obtain ⟨x, hxk⟩ : ∃ x, xs[k]? = some x := ⟨_, List.getElem?_eq_getElem (by rw [HXl.out]; omega)⟩
      obtain ⟨y, hyk⟩ : ∃ y, ys[k]? = some y := ⟨_, List.getElem?_eq_getElem (by rw [HYl.out]; exact h1)⟩
      have d0 : wr.cell? ⟨a0, o0 + k, none⟩ = some (.int .i64 (x : Int)) := (hb.cell (p := ⟨a0, o0 + k, none⟩) hA0).trans (hca k x hxk)
      have d1 : wr.cell? ⟨b0, p0 + k, none⟩ = some (.int .i64 (y : Int)) := (hb.cell (p := ⟨b0, p0 + k, none⟩) hB0).trans (hcb k y hyk)
      have hb0r : b0 < wr.heap.size := Nat.lt_of_lt_of_le hB0 hb.size
      have ha0r : a0 < wr.heap.size := Nat.lt_of_lt_of_le hA0 hb.size
      have HL := Lib.hid fun W => refLower_nat x W
      obtain ⟨l, hl⟩ : ∃ l, lowN x = l := ⟨_, rfl⟩
      rw [hl] at HL
      by_cases h3 : l = y
      · have t3 : ((l : Int) != (y : Int)) = false := by rw [h3]; simp
        have HT2 : Hid ((xs.take (k + 1)).map lowN = ys.take (k + 1)) := Lib.hid (by rw [take_next hxk, take_next hyk, List.map_append, HT.out, List.map_cons, hl, h3]; rfl)
        clear hca hcb hxk hyk hl h3
        go_wp2
        go_region_held3 (fun v => v.cell? ⟨a0, o0 + k, none⟩ = some (.int .i64 (x : Int)) ∧ v.cell? ⟨b0, p0 + k, none⟩ = some (.int .i64 (y : Int))) (first | exact ⟨d0, d1⟩ | exact ⟨d6, d5⟩)
          (first | (go_at_call 83; (with_reducible refine (HL.out _).mono ?_); rintro e w5 ⟨rfl, hb5⟩; have d5 := (hb5.cell (p := ⟨b0, p0 + k, none⟩) hb0r).trans d1; have d6 := (hb5.cell (p := ⟨a0, o0 + k, none⟩) ha0r).trans d0))
        all_goals
          go_wp2
          go_roundw
          case rel => exact ⟨k + 1, by omega, by go_num, HT2, below_next hb.drew hb5⟩
          case measure => simp [intOf]; omega
      · have t3 : ((l : Int) != (y : Int)) = true := by simp; omega
        have HE : Hid (R = false) := Lib.hid (by
          rw [← HR.out]
          cases hp : passB xs ys with
          | false => rfl
          | true =>
            exfalso
            have h4 := congrArg (fun l => l[k]?) (pass_iff.1 hp)
            simp only [List.getElem?_map] at h4
            rw [List.getElem?_take, if_pos (by rw [HYl.out]; exact h1), hxk, hyk, Option.map_some] at h4
            exact h3 (by rw [← hl]; exact Option.some.inj h4))
        clear hca hcb hxk hyk hl h3
        go_wp2
        go_region_held3 (fun v => v.cell? ⟨a0, o0 + k, none⟩ = some (.int .i64 (x : Int)) ∧ v.cell? ⟨b0, p0 + k, none⟩ = some (.int .i64 (y : Int))) (first | exact ⟨d0, d1⟩ | exact ⟨d6, d5⟩)
          (first | (go_at_call 83; (with_reducible refine (HL.out _).mono ?_); rintro e w5 ⟨rfl, hb5⟩; have d5 := (hb5.cell (p := ⟨b0, p0 + k, none⟩) hb0r).trans d1; have d6 := (hb5.cell (p := ⟨a0, o0 + k, none⟩) ha0r).trans d0))
        all_goals
          go_wp2
          go_ret
          rw [HE.out]
          exact ⟨rfl, below_next hb.drew hb5⟩
    · obtain rfl : k = m := by omega
      have t1 : decide ((k : Int) < (k : Int)) = false := by simp
      have t1' : decide (k < k) = false := by simp
      have HE : Hid (R = true) := Lib.hid (by
        rw [← HR.out]
        refine pass_iff.2 ?_
        rw [HYl.out, HT.out, List.take_of_length_le (by rw [HYl.out]; exact Nat.le_refl _)])
      go_wp2
      go_ret
      rw [HE.out]
      exact ⟨rfl, hb⟩

end Go.Proofs.YtafnjbmeponobaaGreatDoor
