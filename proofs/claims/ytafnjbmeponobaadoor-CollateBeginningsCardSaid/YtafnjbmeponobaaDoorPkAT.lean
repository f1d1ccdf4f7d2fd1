/-
  The program's longest: the letter with the longest Text.
  Rows of the call's own beside other blocks: what keeps a row, append of a struct with the row alone changed.
  The reference's letter, capital, order, passes of collate.
  The reference's single of collate: the elements of a character.
  The reference's single of collate: a letter with a search form.
  The numbers of this program for the library's contracts of strings.Builder and strings.Join.
-/
import Derived.Test.YtafnjbmeponobaaDoorPkAI
import Derived.Test.YtafnjbmeponobaaDoorPkAS
import Derived.Lib.MinMax
import Derived.BigQuiet
import Derived.Deep.LoopGhost
import Derived.WalkSmall
import Derived.Test.YtafnjbmeponobaaDoorPkAG
import Derived.Deep.RegionHeld3
import Derived.Test.YtafnjbmeponobaaDoorProg
import Derived.WalkKit
import Derived.Shelf.Strings.BuilderK
import Derived.Shelf.Strings.OnBuilder
namespace Go.Proofs.YtafnjbmeponobaaDoor
open Go.RowKit

/-- A letter as the program keeps it: the characters of its Text, its weight. -/
def tlv (y : Value × Nat) : List Value := [y.1, .int .i64 (y.2 : Int)]
theorem tlv_len (y : Value × Nat) : (tlv y).length = 2 := rfl
/-- The letters of a tailoring as the program keeps them. -/
def Ltt (w : World) (B : Nat) (v : Value) (T : List LetL) : Prop :=
  ∃ ys : List (Value × Nat), SArr 2 tlv w B v ys ∧ ys.length = T.length ∧ ∀ (i : Nat) (y : Value × Nat) (x : LetL), ys[i]? = some y → T[i]? = some x → Arr nv w B y.1 x.1 ∧ y.2 = lwN x.2 + i + 1
theorem Ltt.below {w w' : World} {B : Nat} {v : Value} {T : List LetL} (h : Ltt w B v T) (hb : Below B w w') : Ltt w' B v T := by
  obtain ⟨ys, h1, h2, h3⟩ := h
  exact ⟨ys, h1.below hb, h2, fun i y x hy hx => ⟨(h3 i y x hy hx).1.below hb, (h3 i y x hy hx).2⟩⟩
theorem Ltt.more {w : World} {B B' : Nat} {v : Value} {T : List LetL} (h : Ltt w B v T) (hb : B ≤ B') : Ltt w B' v T := by
  obtain ⟨ys, h1, h2, h3⟩ := h
  exact ⟨ys, h1.more hb, h2, fun i y x hy hx => ⟨(h3 i y x hy hx).1.more hb, (h3 i y x hy hx).2⟩⟩
theorem Ltt.up {W w : World} {v : Value} {T : List LetL} (h : Ltt W W.heap.size v T) (hb : Below W.heap.size W w) : Ltt w w.heap.size v T := (h.below hb).more hb.size

theorem below_putL {w w' : World} {B k i : Nat} (h : Below B w w') (hk : B ≤ k) (v : Value) : Below B w (w'.setCell ⟨k, i, none⟩ v) :=
  ⟨h.os, h.tape, h.output, by rw [World.size_setCell]; exact h.size, fun j hj => (Below.heap_setCell w' ⟨k, i, none⟩ v j (by show j ≠ k; omega)).trans (h.block j hj)⟩

/-! In plain mathematics. -/
/-- Of the Texts that the small letters go on with, none is longer than n. -/
def NoLong (T : List LetL) (small : List Nat) (n : Nat) : Prop := ∀ y ∈ T, small.take y.1.length = y.1 → y.1.length ≤ n
theorem pass_small {ch y : List Nat} : passB ch y = true ↔ (ch.map lowN).take y.length = y := by rw [pass_iff, List.map_take]
theorem long_found {T : List LetL} (hT : LetOk T) {ch : List Nat} {k n : Nat} {x : LetL} (hx : T[k]? = some x) (he : x.1 = (ch.map lowN).take n) (hn : n ≤ ch.length) (h : NoLong T (ch.map lowN) n) : bestC T ch = some (k, x.1.length) := by
  have hl : x.1.length = n := by rw [he, List.length_take, List.length_map]; omega
  refine best_is hx (pass_small.2 (by rw [hl, he])) (hT.size x (List.mem_of_getElem? hx)).1 fun i y hy hp => ?_
  have h1 := h y (List.mem_of_getElem? hy) (pass_small.1 hp)
  rw [hl]
  rcases Nat.lt_or_ge y.1.length n with h2 | h2
  · exact .inr h2
  · refine .inl (hT.dist i k y x hy hx ?_)
    have h3 : y.1.length = n := by omega
    have h4 := pass_small.1 hp
    rw [h3] at h4
    rw [he, h4]
theorem long_none {T : List LetL} {ch : List Nat} (h : NoLong T (ch.map lowN) 0) : bestC T ch = none :=
  best_is_none fun y hy hp => Nat.le_zero.1 (h y hy (pass_small.1 hp))
theorem long_start {T : List LetL} (hT : LetOk T) (small : List Nat) : NoLong T small (min 4 small.length) := by
  intro y hy h
  have h1 := (hT.size y hy).2
  have h2 := congrArg List.length h
  rw [List.length_take] at h2
  omega
/-- None of the first k Texts is what the small letters begin with. -/
def NoHit (T : List LetL) (s : List Nat) (k : Nat) : Prop := ∀ y ∈ T.take k, y.1 ≠ s
theorem noHit_next {T : List LetL} {s : List Nat} {k : Nat} {x : LetL} (h : NoHit T s k) (hx : T[k]? = some x) (hne : x.1 ≠ s) : NoHit T s (k + 1) := by
  intro y hy
  rw [take_next hx] at hy
  rcases List.mem_append.1 hy with hy | hy
  · exact h y hy
  · rw [List.mem_singleton.1 hy]; exact hne
theorem long_next {T : List LetL} {small : List Nat} {n : Nat} (h : NoLong T small (n + 1)) (hh : NoHit T (small.take (n + 1)) T.length) : NoLong T small n := by
  intro y hy hp
  have h1 := h y hy hp
  rcases Nat.lt_or_ge y.1.length (n + 1) with h2 | h2
  · omega
  · exfalso
    have h3 : y.1.length = n + 1 := by omega
    rw [h3] at hp
    exact hh y (by rw [List.take_of_length_le (Nat.le_refl _)]; exact hy) hp.symm
/-- What longest returns. -/
def LongEnd (w : World) (T : List LetL) (ch : List Nat) (v : Value) (p : Int) (ok : Bool) : Prop :=
  (ok = false ∧ bestC T ch = none) ∨ (ok = true ∧ ∃ (k : Nat) (x : LetL), T[k]? = some x ∧ bestC T ch = some (k, x.1.length) ∧ Arr nv w w.heap.size v x.1 ∧ p = ((lwN x.2 + k + 1 : Nat) : Int))

set_option maxRecDepth 100000 in
set_option maxHeartbeats 6400000 in
theorem longest_any (A : Option Addr) (n c : Nat) (A' : Option Addr) (m c' : Nat) (T : List LetL) (ch : List Nat) (w : World) (h : Ltt w w.heap.size (.slice A n c) T) (hA : Arr nv w w.heap.size (.slice A' m c') (ch.map lowN)) (hT : LetOk T) (hm : m ≤ 1000000) :
    Calls Tryd.prog 44 #[.slice A n c, .slice A' m c'] w fun e w' => (∃ Av mv cv p ok, e = .returned (.tuple #[.agg #[.slice Av mv cv, .int .i64 p], .bool ok]) ∧ LongEnd w T ch (.slice Av mv cv) p ok) ∧ Below w.heap.size w w' := by
  obtain ⟨ys, h1, h2, h3⟩ := h
  have hyl := h1.len
  have hT40 := hT.few
  have HTl : Hid (T.length = n) := Lib.hid (by rw [← h2, hyl])
  have HYl : Hid (ys.length = n) := Lib.hid hyl
  have hn40 : n ≤ 40 := by have := HTl.out; omega
  have HT := Lib.hid hT
  have HAl : Hid (ch.length = m) := Lib.hid (by have := hA.len; rwa [List.length_map] at this)
  have H3 := Lib.hid h3
  have HAr := Lib.hid hA
  have hcap := hA.cap
  obtain ⟨N, hN⟩ : ∃ N, min 4 m = N := ⟨_, rfl⟩
  have hmin : min (4 : Int) (m : Int) = (N : Int) := by omega
  have HN : Hid (NoLong T (ch.map lowN) N) := Lib.hid (by have := long_start hT (ch.map lowN); rw [List.length_map, HAl.out, hN] at this; exact this)
  have hNm : N ≤ m := by omega
  have hbd1 : Below w.heap.size w (w.alloc (.cells #[.slice none 0 0, .int .i64 0] 54)) := (Below.refl _ _).alloc (Nat.le_refl _) _
  have hBox0 := Box.made w 54 #[.slice none 0 0, .int .i64 0]
  obtain ⟨wd, hwd⟩ : ∃ wd, w.alloc (.cells #[.slice none 0 0, .int .i64 0] 54) = wd := ⟨_, rfl⟩
  have hsd : wd.heap.size = w.heap.size + 1 := by rw [← hwd]; simp
  rw [hwd] at hbd1 hBox0
  clear hT h3 hyl h2 hT40 hN hA
  go_enter Tryd.func44, Tryd.ntmps44
  go_wp2
  go_step3
  go_wp2
  go_step3
  go_wp2
  go_loopg [5, 6] N (fun g1 s5 s6 wr => s5 = .bool false ∧ s6 = .int .i64 (g1 : Int) ∧ g1 ≤ N ∧ Hid (NoLong T (ch.map lowN) g1) ∧ Box wr w.heap.size 54 #[.slice none 0 0, .int .i64 0] ∧ Below w.heap.size w wr)
  case atStart => exact ⟨rfl, rfl, Nat.le_refl _, HN, hBox0, hbd1⟩
  case round =>
    obtain ⟨rfl, rfl, hgN, HNo, hbox, hb⟩ := hrel
    have hbxl := hbox.lt
    by_cases h0 : gk = 0
    · subst h0
      have HE := Lib.hid (long_none HNo.out)
      have c0 : wr.cell? ⟨w.heap.size, 0, none⟩ = some (.slice none 0 0) := by rw [hbox.cell]; rfl
      have c1 : wr.cell? ⟨w.heap.size, 1, none⟩ = some (.int .i64 0) := by rw [hbox.cell]; rfl
      have f0 : wr.frozen? ⟨w.heap.size, 0, none⟩ = false := hbox.free 0
      have f1 : wr.frozen? ⟨w.heap.size, 1, none⟩ = false := hbox.free 1
      go_wp2
      (try rw [Exit.noGoto_ret])
      refine bodyPost_ret (v := .tuple #[.agg #[.slice none 0 0, .int .i64 0], .bool false]) (by simp [results, Tryd.results44, go_sem, c0, c1]) rfl ?_
      exact ⟨⟨_, _, _, _, _, rfl, .inl ⟨rfl, HE.out⟩⟩, below_putL (below_putL hb (Nat.le_refl _) _) (Nat.le_refl _) _⟩
    · obtain ⟨g2, rfl⟩ : ∃ g2, gk = g2 + 1 := ⟨gk - 1, by omega⟩
      have t0 : decide (((g2 + 1 : Nat) : Int) > 0) = true := by simp
      have hum : g2 + 1 ≤ 4 := by omega
      have hum2 : g2 + 1 ≤ m := by omega
      have hg2N : g2 ≤ N := by omega
      have hg2 : g2 + 1 ≤ c' := by omega
      have HH := Lib.hid (HAr.out.head (show g2 + 1 ≤ m by omega))
      have hsl : ∀ W, (Instr.sliceAt 22 (.slice A' m c') none (some (.int .i64 ((g2 + 1 : Nat) : Int))) none).run Tryd.prog W = .ok (.slice A' (g2 + 1) c') W := fun W => head_ints A' m c' (g2 + 1) hg2 W
      obtain ⟨u, hu⟩ : ∃ u, g2 + 1 = u := ⟨_, rfl⟩
      rw [hu] at HH hsl hg2 t0 HNo hum hum2
      have HU := Lib.hid hu
      have t0' : decide ((0 : Int) < (u : Int)) = true := by simp; omega
      have t0n : decide (0 < u) = true := by simp; omega
      have s1 : IntKind.i64.wrap ((u : Int) - 1) = ((g2 : Nat) : Int) := by rw [wraps_i64 _ (by omega) (by omega)]; omega
      clear h0
      rw [hu] 
      clear hu
      go_wp2
      go_loopg [5, 18] n (fun g3 s5 s18 wi => ∃ k : Nat, k + g3 = n ∧ s5 = .bool false ∧ s18 = .int .i64 (k : Int) ∧ Hid (NoHit T ((ch.map lowN).take u) k) ∧ Box wi w.heap.size 54 #[.slice none 0 0, .int .i64 0] ∧ Below w.heap.size w wi)
      case atStart => exact ⟨0, Nat.zero_add _, rfl, rfl, Lib.hid (fun y hy => by simp at hy), hbox, hb⟩
      case round =>
        clear hbox hb hbxl
        obtain ⟨k, hkg, rfl, rfl, HHit, hbox, hb⟩ := hrel
        have hbxl := hbox.lt
        by_cases hlt : k < n
        · obtain ⟨g4, rfl⟩ : ∃ g4, gk = g4 + 1 := ⟨gk - 1, by omega⟩
          have t1 : decide ((k : Int) < (n : Int)) = true := by simp; omega
          have kz : (k : Int) < (n : Int) := by omega
          obtain ⟨b0, o0, rfl, hB0, hc0⟩ := h1.some_ tlv_len (by decide) (by omega)
          obtain ⟨y, hy⟩ : ∃ y, ys[k]? = some y := ⟨_, List.getElem?_eq_getElem (by have := HYl.out; omega)⟩
          obtain ⟨x, hx⟩ : ∃ x, T[k]? = some x := ⟨_, List.getElem?_eq_getElem (by have := HTl.out; omega)⟩
          have d0 := (hb.cell (p := ⟨b0, o0 + k * 2, none⟩) hB0).trans (hc0 k y hy 0 _ rfl)
          have d1 := (hb.cell (p := ⟨b0, o0 + k * 2 + 1, none⟩) hB0).trans (hc0 k y hy 1 _ rfl)
          obtain ⟨hAy, hpy⟩ := H3.out k y x hy hx
          obtain ⟨yv, p⟩ := y
          obtain ⟨Ay, cy, hyv⟩ := hAy.form
          simp only at hyv hpy d0 d1 hAy
          subst hyv
          have hxl := (HT.out.size x (List.mem_of_getElem? hx)).2
          have HX := Lib.hid hx
          have HAy := Lib.hid hAy
          obtain ⟨ny, hny⟩ : ∃ ny, x.1.length = ny := ⟨_, rfl⟩
          have HNy := Lib.hid hny
          rw [hny] at d0 HAy hxl
          have HP := Lib.hid hpy
          have HE := Lib.hid (fun (W : World) (hW : Below w.heap.size w W) => slEqual_any Ay ny cy A' u c' x.1 ((ch.map lowN).take u) W (HAy.out.up hW) (HH.out.up hW) (by omega) (by omega))
          have hbV : Below w.heap.size w (wr.alloc (.cells #[.slice Ay ny cy, .int .i64 (p : Int)] 54)) := below_new hb _
          have e0 : (wr.alloc (.cells #[.slice Ay ny cy, .int .i64 (p : Int)] 54)).cell? ⟨wr.heap.size, 0, none⟩ = some (.slice Ay ny cy) := by simp
          have e1 : (wr.alloc (.cells #[.slice Ay ny cy, .int .i64 (p : Int)] 54)).cell? ⟨wr.heap.size, 1, none⟩ = some (.int .i64 (p : Int)) := by simp
          have hboxV := hbox.alloc (.cells #[.slice Ay ny cy, .int .i64 (p : Int)] 54)
          have c0 : (wr.alloc (.cells #[.slice Ay ny cy, .int .i64 (p : Int)] 54)).cell? ⟨w.heap.size, 0, none⟩ = some (.slice none 0 0) := by rw [hboxV.cell]; rfl
          have c1 : (wr.alloc (.cells #[.slice Ay ny cy, .int .i64 (p : Int)] 54)).cell? ⟨w.heap.size, 1, none⟩ = some (.int .i64 0) := by rw [hboxV.cell]; rfl
          have f0 : (wr.alloc (.cells #[.slice Ay ny cy, .int .i64 (p : Int)] 54)).frozen? ⟨w.heap.size, 0, none⟩ = false := hboxV.free 0
          have f1 : (wr.alloc (.cells #[.slice Ay ny cy, .int .i64 (p : Int)] 54)).frozen? ⟨w.heap.size, 1, none⟩ = false := hboxV.free 1
          clear hc0 hy hx hAy hny hpy
          obtain ⟨R, hR⟩ : ∃ R, decide (x.1 = (ch.map lowN).take u) = R := ⟨_, rfl⟩
          rw [hR] at HE
          cases R with
          | true =>
            have HF := Lib.hid (long_found HT.out HX.out (of_decide_eq_true hR) (by rw [HAl.out]; exact hum2) HNo.out)
            clear hR
            go_wp2
            go_big_quiet (first | (go_at_call 46; refine (HE.out _ (below_drewN hbV _)).mono ?_; rintro e w7 ⟨rfl, q, rfl⟩; exact ⟨rfl, _, World.drewN_drewN _ _ _⟩))
            go_wp2
            have hF := ((((hboxV.drewN nq).put 0 (.slice Ay ny cy)).put 1 (.int .i64 (p : Int))).put 0 (.slice Ay ny cy)).put 1 (.int .i64 (p : Int))
            have k0 := hF.cell 0
            have k1 := hF.cell 1
            simp only [Array.setIfInBounds, List.size_toArray, List.length_cons, List.length_nil] at k0 k1
            (try rw [Exit.noGoto_ret])
            refine bodyPost_ret (v := .tuple #[.agg #[.slice Ay ny cy, .int .i64 (p : Int)], .bool true]) (by simp [results, Tryd.results44, go_sem, k0, k1]) rfl ?_
            exact ⟨⟨_, _, _, _, _, rfl, .inr ⟨rfl, k, x, HX.out, HF.out, HAy.out, by rw [HP.out]⟩⟩, below_putL (below_putL (below_putL (below_putL (below_drewN hbV _) (Nat.le_refl _) _) (Nat.le_refl _) _) (Nat.le_refl _) _) (Nat.le_refl _) _⟩
          | false =>
            have HHit2 := Lib.hid (noHit_next HHit.out HX.out (of_decide_eq_false hR))
            clear hR
            go_wp2
            go_big_quiet (first | (go_at_call 46; refine (HE.out _ (below_drewN hbV _)).mono ?_; rintro e w7 ⟨rfl, q, rfl⟩; exact ⟨rfl, _, World.drewN_drewN _ _ _⟩))
            go_wp2
            go_roundg g4
            case measure => omega
            case rel => exact ⟨k + 1, by omega, rfl, by go_num, HHit2, hboxV.drewN _, below_drewN hbV _⟩
        · obtain rfl : k = n := by omega
          have t1 : decide ((k : Int) < (k : Int)) = false := by simp
          have t1' : decide (k < k) = false := by simp
          have HNo2 : Hid (NoLong T (ch.map lowN) g2) := Lib.hid (by
            have h5 := HNo.out
            rw [← HU.out] at h5
            refine long_next h5 ?_
            rw [HU.out, HTl.out]
            exact HHit.out)
          go_wp2
          go_roundg g2
          case measure => have := HU.out; omega
          case rel => exact ⟨rfl, rfl, hg2N, HNo2, hbox, hb⟩

end Go.Proofs.YtafnjbmeponobaaDoor

namespace Go.Proofs.YtafnjbmeponobaaDoor
open Go.RowKit

theorem own_blockG {w : World} {base e size n : Nat} {v : Value} {xs : List Value} (h : w.ownsRow base e size v n xs) {g : Nat} (hg : v.ownBlock = some g) : base ≤ g ∧ ∃ cur, w.heap[g]? = some (.cells cur e (0, 0)) := by
  rcases h.2 with ⟨rfl, _⟩ | ⟨g', cap, cur, rfl, hb, hx, _⟩
  · cases hg
  · simp only [Value.ownBlock, Option.some.injEq] at hg
    subst hg
    exact ⟨hb, cur, hx⟩
theorem own_sameG {w w' : World} {base e size n : Nat} {v : Value} {xs : List Value} (h : w.ownsRow base e size v n xs) (hk : ∀ g, v.ownBlock = some g → w'.heap[g]? = w.heap[g]?) : w'.ownsRow base e size v n xs := by
  refine ⟨h.1, ?_⟩
  rcases h.2 with h0 | ⟨g, cap, cur, hv, hb, hx, rest⟩
  · exact .inl h0
  · exact .inr ⟨g, cap, cur, hv, hb, (hk g (by rw [hv]; rfl)).trans hx, rest⟩
theorem own_iterG {w : World} {base e size n : Nat} {v : Value} {xs : List Value} (h : w.ownsRow base e size v n xs) {k pos : Nat} {s : ByteArray} (hk : w.heap[k]? = some (.stringIter s pos)) (pos' : Nat) : (w.iterAt k s pos').ownsRow base e size v n xs :=
  own_sameG h fun g hg => by
    obtain ⟨_, cur, hx⟩ := own_blockG h hg
    refine Lib.iterAt_other w k g s pos' (fun e => ?_)
    subst e
    rw [hk] at hx
    cases hx
/-- A row of another kind of elements stays. -/
theorem own_apart {w w' : World} {base base' e e' size size' n n' : Nat} {v v' : Value} {xs xs' : List Value} (h : w.ownsRow base e size v n xs) (h' : w.ownsRow base' e' size' v' n' xs') (hne : e ≠ e') (hg : w.grownBy w' v'.ownBlock) : w'.ownsRow base e size v n xs :=
  own_sameG h fun g hv => by
    obtain ⟨_, cur, hx⟩ := own_blockG h hv
    refine hg.block g (Array.getElem?_eq_some_iff.1 hx).1 fun e2 => ?_
    obtain ⟨_, cur2, hx2⟩ := own_blockG h' e2.symm
    rw [hx] at hx2
    injection hx2 with h1
    injection h1 with _ h2
    exact hne h2
theorem box_apart {w w' : World} {base' e' size' n' k : Nat} {t : TypeId} {cs : Array Value} {v' : Value} {xs' : List Value} (h : Box w k t cs) (h' : w.ownsRow base' e' size' v' n' xs') (hne : t ≠ e') (hg : w.grownBy w' v'.ownBlock) : Box w' k t cs := by
  refine (hg.block k h.lt fun e2 => ?_).trans h
  obtain ⟨_, cur2, hx2⟩ := own_blockG h' e2.symm
  unfold Box at h
  rw [h] at hx2
  injection hx2 with h1
  injection h1 with _ h2
  exact hne h2
theorem iter_apart {w w' : World} {base' e' size' n' k pos : Nat} {s : ByteArray} {v' : Value} {xs' : List Value} (h : w.heap[k]? = some (.stringIter s pos)) (h' : w.ownsRow base' e' size' v' n' xs') (hg : w.grownBy w' v'.ownBlock) : w'.heap[k]? = some (.stringIter s pos) := by
  refine (hg.block k (Array.getElem?_eq_some_iff.1 h).1 fun e2 => ?_).trans h
  obtain ⟨_, cur2, hx2⟩ := own_blockG h' e2.symm
  rw [h] at hx2
  cases hx2
section
variable {α : Type} {sz : Nat} {val : α → List Value}
/-- append(s, y) of one struct, the new world by what is left as it was. -/
theorem append_struct_g {P : Program} (t e : TypeId) (z : Value) (bytes : Nat) (ht : P.underlying t = some (.slice e)) (info : (P.info? e).map (fun i => (i.zero, i.size, i.bytes)) = some (some z, sz, bytes))
    (hzs : z.cells.size = sz) (hs0 : 0 < sz) (hbytes : bytes ≤ 100) (hv : ∀ x, (val x).length = sz) (hval : ∀ x, ∀ u ∈ val x, u.oneCell' = true)
    {ops : Array Oper} {rest : List Oper} {o : Oper} {a : Act} {Q : Exit → Act → World → Prop} (w : World) (hgd : o.guard = none) (s x : Operand)
    (ho : o.op = .call { callee := .builtin .append, args := #[s, x], argTypes := #[t, t] })
    (base : Nat) (v : Value) (xs : List α) (hs : a.eval s = v) (hown : w.ownsRow base e sz v xs.length (xs.flatMap val)) (y : α) (u : Array Value) (hu : u = (val y).toArray) (N : Nat) (hN : w.heap.size = N)
    (hx : a.eval x = .slice (some ⟨N, 0, none⟩) 1 1) (hlen : xs.length ≤ 1000000000000 - 1) (hbase : base ≤ w.heap.size)
    (h : ∀ v' w', w'.ownsRow base e sz v' (xs ++ [y]).length ((xs ++ [y]).flatMap val) → w.grownBy w' v.ownBlock → wpList P ops Q rest (a.put o.dst v') w') : wpList P ops Q (o :: rest) a (w.alloc (.cells u e)) := by
  obtain ⟨i0, hi, hz0, hz1, hz2⟩ := info_parts info
  subst hu hN
  have hown1 : (w.alloc (.cells (val y).toArray e)).ownsRow base e sz v xs.length (xs.flatMap val) := own_keep_below hown ((Below.refl _ _).alloc (Nat.le_refl _) _)
  have hcell : ∀ j u, (val y)[j]? = some u → (w.alloc (.cells (val y).toArray e)).cell? ((⟨w.heap.size, 0, none⟩ : Addr).add j) = some u := by
    intro j u hu
    rw [plain_add, (Box.made w e (val y).toArray).cell]
    simpa using hu
  have hb0 : w.grownBy (w.alloc (.cells (val y).toArray e)) v.ownBlock := grown_of_below _ ((Below.refl _ _).alloc (Nat.le_refl _) _)
  refine wpList_append_own (w := w.alloc (.cells (val y).toArray e)) hgd s x t ho base e i0 z sz bytes ht hi hz0 hz1 hz2 hzs hs0 v xs.length (xs.flatMap val) hs hown1 ⟨w.heap.size, 0, none⟩ 1 1 (val y) hx (by rw [hv, Nat.one_mul]) hcell (hval y)
    (by unfold maxLen; omega) (by have := Nat.mul_le_mul (show xs.length + 1 ≤ 1000000000000 by omega) hbytes; omega) (by simp; omega) ?_
  intro v' w' h1 h2 _
  exact h v' w' (by rw [List.length_append, List.flatMap_append]; simpa using h1) (grown_trans hb0 h2)
/-- The same as a step of a region that draws its order. -/
theorem step_struct_g {P : Program} (t e : TypeId) (z : Value) (bytes : Nat) (ht : P.underlying t = some (.slice e)) (info : (P.info? e).map (fun i => (i.zero, i.size, i.bytes)) = some (some z, sz, bytes))
    (hzs : z.cells.size = sz) (hs0 : 0 < sz) (hbytes : bytes ≤ 100) (hv : ∀ x, (val x).length = sz) (hval : ∀ x, ∀ u ∈ val x, u.oneCell' = true)
    {ops : Array Oper} {o : Oper} {a : Act} {K : Act → World → Prop} {Q : Exit → Act → World → Prop} {E : Prop} (w : World) (hgd : o.guard = none) (s x : Operand)
    (ho : o.op = .call { callee := .builtin .append, args := #[s, x], argTypes := #[t, t] })
    (base : Nat) (v : Value) (xs : List α) (hs : a.eval s = v) (hown : w.ownsRow base e sz v xs.length (xs.flatMap val)) (y : α) (ad : Addr)
    (hx : a.eval x = .slice (some ad) 1 1) (hcell : ∀ j u, (val y)[j]? = some u → w.cell? (ad.add j) = some u) (hlen : xs.length ≤ 1000000000000 - 1) (hbase : base ≤ w.heap.size)
    (h : ∀ v' w', w'.ownsRow base e sz v' (xs ++ [y]).length ((xs ++ [y]).flatMap val) → w.grownBy w' v.ownBlock → K (a.put o.dst v') w') :
    if Region.wanted o (yielded ops a.tmps) = true then Oper.wp P o a w K Q else E := by
  have hw : Region.wanted o (yielded ops a.tmps) = true := by simp [Region.wanted, hgd]
  rw [if_pos hw]
  obtain ⟨i0, hi, hz0, hz1, hz2⟩ := info_parts info
  refine wp_append_own w s x t ho base e i0 z sz bytes ht hi hz0 hz1 hz2 hzs hs0 v xs.length (xs.flatMap val) hs hown ad 1 1 (val y) hx (by rw [hv, Nat.one_mul]) hcell (hval y)
    (by unfold maxLen; omega) (by have := Nat.mul_le_mul (show xs.length + 1 ≤ 1000000000000 by omega) hbytes; omega) hbase ?_
  intro v' w' h1 h2 _
  exact h v' w' (by rw [List.length_append, List.flatMap_append]; simpa using h1) h2
end
theorem below_own {w w' : World} {base e size n : Nat} {v : Value} {xs : List Value} (hown : w.ownsRow base e size v n xs) (hbase : base ≤ w.heap.size) (hg : w.grownBy w' v.ownBlock) : Below base w w' :=
  (Below.refl _ _).grown hg hbase fun _ hk => (own_blockG hown hk).1

end Go.Proofs.YtafnjbmeponobaaDoor

namespace Go.Proofs.YtafnjbmeponobaaDoor
open Go.RowKit

theorem ordL_drop {xs ys : List Nat} {k : Nat} (h : xs.take k = ys.take k) : ordL xs ys = ordL (xs.drop k) (ys.drop k) := by
  conv => lhs; rw [← List.take_append_drop k xs, ← List.take_append_drop k ys, h]
  exact ordL_app _ _ _
theorem dropK_at {l : List Nat} {k x : Nat} (h : l[k]? = some x) : l.drop k = x :: l.drop (k + 1) := by
  obtain ⟨h1, h2⟩ := List.getElem?_eq_some_iff.1 h
  rw [List.drop_eq_getElem_cons h1, h2]

end Go.Proofs.YtafnjbmeponobaaDoor

namespace Go.Proofs.YtafnjbmeponobaaDoor
open Go.RowKit

/-- An element as the model holds it. -/
def ev (e : El) : List Value := [.int .i64 (e.1 : Int), .int .i64 (e.2.1 : Int), .int .i64 (e.2.2 : Int)]
theorem ev_len (e : El) : (ev e).length = 3 := rfl
theorem ev_one (e : El) : ∀ u ∈ ev e, u.oneCell' = true := by
  intro u hu
  simp only [ev, List.mem_cons, List.not_mem_nil, or_false] at hu
  rcases hu with rfl | rfl | rfl <;> rfl
/-- A new slice of these elements. -/
def EndEls (w : World) (l : List El) (e : Ending) (w' : World) : Prop := ∃ A n c, e = .returned (.slice A n c) ∧ SArr 3 ev w' w'.heap.size (.slice A n c) l ∧ Below w.heap.size w w'
theorem single_open (c : Nat) : singleL c = 
  if kN c = 4 then [(100, 1, 1)] else if kN c = 5 then [(100 * c, 1, 1)] else if kN c = 3 then [(20000 + 100 * (c - 48), 1, 1)] else if kN c = 2 then [(0, 10 + (c - 768), 1)]
  else if scN c = 2 then [(50000 + 100 * (lowN c - 945), 1, capN c)] else if scN c = 3 ∧ lowN c ≤ 1103 then [(60000 + 200 * (lowN c - 1072), 1, capN c)]
  else if lowN c = 1108 then [(61100, 1, capN c)] else if lowN c = 1110 then [(61700, 1, capN c)] else if lowN c = 1169 then [(60700, 1, capN c)] else latL c := by
  unfold singleL
  simp only [Nat.beq_eq, Bool.and_eq_true, Nat.ble_eq]
/-- What the reference's single is asked of: a letter, or another character of a decomposed form. -/
structure Asked (c : Nat) : Prop where
  has : hasN c = true
  whole : wholeR c = [c]

/-- What the reference takes as a letter with a search form. -/
def Late (c : Nat) : Prop := kN c ≠ 4 ∧ kN c ≠ 5 ∧ kN c ≠ 3 ∧ kN c ≠ 2 ∧ scN c ≠ 2 ∧ ¬(scN c = 3 ∧ lowN c ≤ 1103) ∧ lowN c ≠ 1108 ∧ lowN c ≠ 1110 ∧ lowN c ≠ 1169
theorem chars_kind : (charL.all fun c => Nat.beq (kN c) 1 || Nat.beq (kN c) 2 || Nat.beq (kN c) 3 || Nat.beq (kN c) 4 || Nat.beq (kN c) 5) = true := by kernel_rfl
theorem kind_one {c : Nat} (h : hasN c = true) : kN c = 1 ∨ kN c = 2 ∨ kN c = 3 ∨ kN c = 4 ∨ kN c = 5 := by
  have h1 := List.all_eq_true.1 chars_kind c ((char_mem c).2 h)
  simp only [Bool.or_eq_true, Nat.beq_eq] at h1
  omega

end Go.Proofs.YtafnjbmeponobaaDoor

namespace Go.Proofs.YtafnjbmeponobaaDoor
open Go.RowKit

def lateB (c : Nat) : Bool := !Nat.beq (kN c) 4 && !Nat.beq (kN c) 5 && !Nat.beq (kN c) 3 && !Nat.beq (kN c) 2 && !Nat.beq (scN c) 2 && !(Nat.beq (scN c) 3 && Nat.ble (lowN c) 1103) && !Nat.beq (lowN c) 1108 && !Nat.beq (lowN c) 1110 && !Nat.beq (lowN c) 1169
theorem chars_late : (charL.all fun c => !(is1 (wholeR c) c && lateB c) || (!Nat.beq (scN c) 3 && (seaN c).all fun x => Nat.ble 97 x && Nat.ble x 65535)) = true := by kernel_rfl
theorem late_sea {c : Nat} (hq : Asked c) (hD : Late c) : scN c ≠ 3 ∧ ∀ x ∈ seaN c, 97 ≤ x ∧ x ≤ 65535 := by
  have h := List.all_eq_true.1 chars_late c ((char_mem c).2 hq.has)
  have hl : lateB c = true := by
    obtain ⟨h0, h1, h2, h3, h4, h5, h6, h7, h8⟩ := hD
    unfold lateB
    rw [beq_false h0, beq_false h1, beq_false h2, beq_false h3, beq_false h4, beq_false h6, beq_false h7, beq_false h8]
    cases hx : (Nat.beq (scN c) 3 && Nat.ble (lowN c) 1103) with
    | false => rfl
    | true =>
      rw [Bool.and_eq_true, Nat.beq_eq, Nat.ble_eq] at hx
      exact absurd hx h5
  rw [is1_of hq.whole, hl] at h
  simp only [Bool.and_self, Bool.not_true, Bool.false_or, List.all_eq_true, Bool.and_eq_true, Nat.ble_eq] at h
  refine ⟨fun e => ?_, h.2⟩
  have := h.1
  rw [e] at this
  cases this
theorem late_single {c : Nat} (hD : Late c) : singleL c = latL c := by
  obtain ⟨h0, h1, h2, h3, h4, h5, h6, h7, h8⟩ := hD
  rw [single_open, if_neg h0, if_neg h1, if_neg h2, if_neg h3, if_neg h4, if_neg h5, if_neg h6, if_neg h7, if_neg h8]
theorem late_len {c : Nat} (hq : Asked c) (hD : Late c) : (seaN c).length ≤ 3 := by
  have h := (ok_col hq.has hq.whole).few
  rw [late_single hD] at h
  unfold latL at h
  rwa [List.length_map] at h
theorem enc_col {c : Nat} (h : hasN c = true) : encR [(c : Int)] = some (encL [c]) := by
  unfold encR
  rw [if_pos (by simp [hasN_eq, h])]
  rfl
theorem sea_enc {c : Nat} (h : hasN c = true) : decR (nSearch (encL [c])) = some (seaN c) ∧ (nSearch (encL [c])).length ≤ 3 * (seaN c).length := by
  have e : nSL (encL [c]) = seaN c := by
    unfold nSL nFL seaN
    rw [nL_encL (fun x hx => by rw [List.mem_singleton.1 hx]; exact h)]
  unfold nSearch
  rw [← e]
  exact ⟨dec_enc _ (dec_ok (nSL_dec _)), encL_len _⟩
def lev (z u : Nat) (x : Nat) : El := (30000 + 100 * (x - 97), z, u)
theorem lev_wrap {z u x : Nat} (h1 : 97 ≤ x) (h2 : x ≤ 65535) : (IntKind.i64.wrap (30000 + IntKind.i64.wrap (100 * IntKind.i64.wrap ((x : Int) - 97))) : Int) = ((lev z u x).1 : Int) := by
  rw [wraps_i64 ((x : Int) - 97) (by omega) (by omega), wraps_i64 (100 * _) (by omega) (by omega), wraps_i64 _ (by omega) (by omega)]
  show _ = ((30000 + 100 * (x - 97) : Nat) : Int)
  omega

end Go.Proofs.YtafnjbmeponobaaDoor

namespace Go.Proofs.YtafnjbmeponobaaDoor
open Go.Shelf

def buildRen6 : Go.Shelf.Ren := ⟨fun | 166 => 48 | 167 => 63 | 168 => 49 | 169 => 50 | 170 => 65 | 240 => 58 | 242 => 59 | 276 => 72 | 278 => 73 | n => n, fun | 0 => 0 | 3 => 3 | 4 => 4 | 5 => 5 | 9 => 9 | 20 => 20 | 21 => 21 | 37 => 34 | 46 => 62 | 51 => 96 | 70 => 69 | 72 => 71 | 75 => 73 | 76 => 74 | 80 => 77 | 127 => 81 | 164 => 94 | n => n, fun n => n⟩
theorem wstrLays : Lays.n166 Tryd.prog buildRen6 := {
  mixed := by kernel_rfl,
  f166 := Tryd.func48.trans (congrArg some (by kernel_rfl)),
  f240 := Tryd.func58.trans (congrArg some (by kernel_rfl)),
  f276 := Tryd.func72.trans (congrArg some (by kernel_rfl)),
  t0 := Tryd.underlying0,
  a0 := Tryd.isAgg0,
  z0 := Tryd.sizeOf0,
  v0 := Tryd.zeroValue0,
  t3 := Tryd.underlying3,
  a3 := Tryd.isAgg3,
  z3 := Tryd.sizeOf3,
  v3 := Tryd.zeroValue3,
  t4 := Tryd.underlying4,
  a4 := Tryd.isAgg4,
  z4 := Tryd.sizeOf4,
  v4 := Tryd.zeroValue4,
  t9 := Tryd.underlying9,
  a9 := Tryd.isAgg9,
  z9 := Tryd.sizeOf9,
  v9 := Tryd.zeroValue9,
  t20 := Tryd.underlying20,
  a20 := Tryd.isAgg20,
  z20 := Tryd.sizeOf20,
  v20 := Tryd.zeroValue20,
  t37 := Tryd.underlying34,
  a37 := Tryd.isAgg34,
  z37 := Tryd.sizeOf34,
  v37 := Tryd.zeroValue34,
  t70 := Tryd.underlying69,
  a70 := Tryd.isAgg69,
  z70 := Tryd.sizeOf69,
  v70 := Tryd.zeroValue69,
  t72 := Tryd.underlying71,
  a72 := Tryd.isAgg71,
  z72 := Tryd.sizeOf71,
  v72 := Tryd.zeroValue71,
  t75 := Tryd.underlying73,
  a75 := Tryd.isAgg73,
  z75 := Tryd.sizeOf73,
  v75 := Tryd.zeroValue73,
  t164 := Tryd.underlying94,
  a164 := Tryd.isAgg94,
  z164 := Tryd.sizeOf94,
  v164 := Tryd.zeroValue94
}
theorem wbyteLays : Lays.n167 Tryd.prog buildRen6 := {
  mixed := by kernel_rfl,
  f167 := Tryd.func63.trans (congrArg some (by kernel_rfl)),
  f240 := Tryd.func58.trans (congrArg some (by kernel_rfl)),
  f276 := Tryd.func72.trans (congrArg some (by kernel_rfl)),
  t0 := Tryd.underlying0,
  a0 := Tryd.isAgg0,
  z0 := Tryd.sizeOf0,
  v0 := Tryd.zeroValue0,
  t4 := Tryd.underlying4,
  a4 := Tryd.isAgg4,
  z4 := Tryd.sizeOf4,
  v4 := Tryd.zeroValue4,
  t5 := Tryd.underlying5,
  a5 := Tryd.isAgg5,
  z5 := Tryd.sizeOf5,
  v5 := Tryd.zeroValue5,
  t9 := Tryd.underlying9,
  a9 := Tryd.isAgg9,
  z9 := Tryd.sizeOf9,
  v9 := Tryd.zeroValue9,
  t20 := Tryd.underlying20,
  a20 := Tryd.isAgg20,
  z20 := Tryd.sizeOf20,
  v20 := Tryd.zeroValue20,
  t37 := Tryd.underlying34,
  a37 := Tryd.isAgg34,
  z37 := Tryd.sizeOf34,
  v37 := Tryd.zeroValue34,
  t70 := Tryd.underlying69,
  a70 := Tryd.isAgg69,
  z70 := Tryd.sizeOf69,
  v70 := Tryd.zeroValue69,
  t72 := Tryd.underlying71,
  a72 := Tryd.isAgg71,
  z72 := Tryd.sizeOf71,
  v72 := Tryd.zeroValue71,
  t75 := Tryd.underlying73,
  a75 := Tryd.isAgg73,
  z75 := Tryd.sizeOf73,
  v75 := Tryd.zeroValue73,
  t164 := Tryd.underlying94,
  a164 := Tryd.isAgg94,
  z164 := Tryd.sizeOf94,
  v164 := Tryd.zeroValue94
}
theorem blenLays : Lays.n170 Tryd.prog buildRen6 := {
  mixed := by kernel_rfl,
  f170 := Tryd.func65.trans (congrArg some (by kernel_rfl)),
  t0 := Tryd.underlying0,
  a0 := Tryd.isAgg0,
  z0 := Tryd.sizeOf0,
  v0 := Tryd.zeroValue0,
  t3 := Tryd.underlying3,
  a3 := Tryd.isAgg3,
  z3 := Tryd.sizeOf3,
  v3 := Tryd.zeroValue3,
  t37 := Tryd.underlying34,
  a37 := Tryd.isAgg34,
  z37 := Tryd.sizeOf34,
  v37 := Tryd.zeroValue34,
  t70 := Tryd.underlying69,
  a70 := Tryd.isAgg69,
  z70 := Tryd.sizeOf69,
  v70 := Tryd.zeroValue69,
  t72 := Tryd.underlying71,
  a72 := Tryd.isAgg71,
  z72 := Tryd.sizeOf71,
  v72 := Tryd.zeroValue71
}
theorem buildExtra6 : Builder.Extra Tryd.prog buildRen6 where
  sizeBuilder := by kernel_rfl
  liesBuilder := by kernel_rfl
  t5 := Tryd.underlying5
  a5 := Tryd.isAgg5
  z5 := Tryd.sizeOf5
  v5 := Tryd.zeroValue5
  infoByte := by kernel_rfl
  cellsByte := by kernel_rfl
  sizeByte := by kernel_rfl
  neB5 := by decide

end Go.Proofs.YtafnjbmeponobaaDoor
