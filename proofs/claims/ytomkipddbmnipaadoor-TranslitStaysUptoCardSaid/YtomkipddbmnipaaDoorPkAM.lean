/-
  The first of the sorted rules with which a string begins is the best one.
  What the library's functions do that translit calls: a strings.Builder of the call's own, the first character, prefixes, parts.
  The reference's run of translit.
-/
import Derived.Test.YtomkipddbmnipaaDoorPkAL
import Derived.Test.YtomkipddbmnipaaDoorPkAE
import Derived.Test.YtomkipddbmnipaaDoorPkAF
import Derived.Test.YtomkipddbmnipaaDoorPkAH
namespace Go.Proofs.YtomkipddbmnipaaDoor

section
variable {d : Bool} {t : List RuleL} {M : List Nat} {s : List UInt8}
theorem map_pick (d : Bool) (t : List RuleL) (i : Nat) (hi : i < t.length) : (t.map (pick d))[i]? = some (pick d (tabOf t i)) := by
  rw [List.getElem?_map, List.getElem?_eq_getElem hi]
  exact congrArg (fun x => some (pick d x)) (tab_get7 (List.getElem?_eq_getElem hi)).symm
theorem mem_pick (d : Bool) (t : List RuleL) {y : RuleL} (h : y ∈ t.map (pick d)) : ∃ j, j < t.length ∧ y = pick d (tabOf t j) := by
  obtain ⟨j, hj⟩ := List.getElem?_of_mem h
  have hl : j < t.length := by
    have := (List.getElem?_eq_some_iff.1 hj).1
    rwa [List.length_map] at this
  rw [map_pick d t j hl] at hj
  exact ⟨j, hl, (Option.some.inj hj).symm⟩
theorem sorted_mem (hM : Srtd (cls d (tabOf t)) (List.range t.length) M) {i : Nat} : i ∈ M ↔ i < t.length := by
  rw [hM.2.mem, List.mem_range]
theorem sorted_len (hM : Srtd (cls d (tabOf t)) (List.range t.length) M) : M.length = t.length := by rw [hM.length, List.length_range]
theorem first_none (hM : Srtd (cls d (tabOf t)) (List.range t.length) M) (h : ∀ i ∈ M, begB s (pick d (tabOf t i)).1 = false) : bestL (t.map (pick d)) s = none := by
  refine best_eq ?_
  intro y hy
  obtain ⟨j, hj, rfl⟩ := mem_pick d t hy
  exact h j ((sorted_mem hM).2 hj)
theorem first_some (hS : Short d (tabOf t)) {A B : List Nat} {i : Nat} (hM : Srtd (cls d (tabOf t)) (List.range t.length) (A ++ i :: B)) (h : ∀ j ∈ A, begB s (pick d (tabOf t j)).1 = false) (hi : begB s (pick d (tabOf t i)).1 = true) :
    bestL (t.map (pick d)) s = some (pick d (tabOf t i)) := by
  have hil : i < t.length := (sorted_mem hM).1 (by simp)
  have hle : ∀ j ∈ B, (pick d (tabOf t j)).1.length ≤ (pick d (tabOf t i)).1.length := by
    intro j hj
    have h1 := (asc_app.1 hM.1).2.1
    have h2 : cls d (tabOf t) i ≤ cls d (tabOf t) j := (List.pairwise_cons.1 h1).1 j hj
    have h3 := cls_lt hS j i
    omega
  have hwhere : ∀ j, j < t.length → begB s (pick d (tabOf t j)).1 = true → j = i ∨ j ∈ B := by
    intro j hj hb
    have hm : j ∈ A ++ i :: B := (sorted_mem hM).2 hj
    rcases List.mem_append.1 hm with hm | hm
    · rw [h j hm] at hb; cases hb
    · exact List.mem_cons.1 hm
  refine best_eq ⟨i, map_pick d t i hil, hi, fun y hy hb => ?_, fun j y hj hy hb => ?_⟩
  · obtain ⟨j, hj, rfl⟩ := mem_pick d t hy
    rcases hwhere j hj hb with rfl | hm
    · exact Nat.le_refl _
    · exact hle j hm
  · have hjl : j < t.length := by omega
    rw [map_pick d t j hjl] at hy
    obtain rfl := Option.some.inj hy
    rcases hwhere j hjl hb with rfl | hm
    · omega
    · have h1 := hle j hm
      rcases Nat.lt_or_ge (pick d (tabOf t j)).1.length (pick d (tabOf t i)).1.length with h2 | h2
      · exact h2
      · exfalso
        have hc : cls d (tabOf t) j = cls d (tabOf t) i := by unfold cls; omega
        have hp : (flt (cls d (tabOf t)) (cls d (tabOf t) i) (List.range t.length)).Pairwise (· < ·) := List.Pairwise.filter _ List.pairwise_lt_range
        rw [← hM.2, flt_app] at hp
        have e : flt (cls d (tabOf t)) (cls d (tabOf t) i) (i :: B) = i :: flt (cls d (tabOf t)) (cls d (tabOf t) i) B := by
          unfold flt
          rw [List.filter_cons_of_pos (by rw [Nat.beq_eq])]
        rw [e] at hp
        have h3 := (List.pairwise_append.1 hp).2.1
        have := (List.pairwise_cons.1 h3).1 j (mem_flt.2 ⟨hm, hc⟩)
        omega
end
/-- The direction's rules as a table. -/
theorem dir_true (t : List RuleL) : t.map (pick true) = t := by
  have : pick true = id := by funext x; rfl
  rw [this, List.map_id]
theorem dir_false (t : List RuleL) : t.map (pick false) = revL t := rfl

end Go.Proofs.YtomkipddbmnipaaDoor

namespace Go.Proofs.YtomkipddbmnipaaDoor
open Go.RowKit

/-- What the program's and the library's tables hold when a call begins. -/
def Ready7 (w : World) : Prop := Spans w ∧ (∃ m : Int, w.cell? ⟨3, 0, none⟩ = some (.int .i64 m)) ∧ Lib.Utf8Tabs 0 1 w ∧ 3 < w.heap.size
theorem Ready7.below {w w' : World} (h : Ready7 w) (hb : Below w.heap.size w w') : Ready7 w' := by
  obtain ⟨h1, ⟨m, h2⟩, h3, h4⟩ := h
  exact ⟨h1.below hb, ⟨m, (hb.cell h4).trans h2⟩, Utf8Tabs_below h3 hb, Nat.lt_of_lt_of_le h4 hb.size⟩

theorem builder_below7 {T e : TypeId} {B b : Nat} {bs : List Value} {w w' : World} (h : Lib.IsBuilderF T e B b bs w) (hb : Below w.heap.size w w') : Lib.IsBuilderF T e B b bs w' := by
  have key : ∀ p, Lib.BuilderAtF T e B b p bs w → Lib.BuilderAtF T e B b p bs w' := by
    rintro p ⟨h1, v, h2, h3, h4⟩
    exact ⟨h1, v, (hb.block b (Array.getElem?_eq_some_iff.1 h2).1).trans h2, h3.kept (grown_of_below none hb) (by cases v.ownBlock with
      | none => exact .inl rfl
      | some g => exact .inr (by simp)), h4⟩
  exact h.elim (fun h => .inl (key _ h)) (fun h => .inr (key _ h))
/-- A builder of the call's own that holds these bytes. -/
def Built (B b : Nat) (l : List UInt8) (w : World) : Prop := Lib.IsBuilderF 65 5 B b (Lib.byteCells l) w
theorem Built.below {B b : Nat} {l : List UInt8} {w w' : World} (h : Built B b l w) (hb : Below w.heap.size w w') : Built B b l w' := builder_below7 h hb
theorem Built.fresh (w : World) : Built w.heap.size w.heap.size [] (w.alloc (.cells #[.pointer none, .slice none 0 0] 65)) := Lib.IsBuilderF.of (Lib.fresh_isBuilder _ _ w)
theorem writeStr_k (B b : Nat) (l s : List UInt8) (w : World) (h : Built B b l w) (hlen : l.length ≤ 100000000) (hs : s.length ≤ 100000000) (hBw : B ≤ w.heap.size) :
    Calls Tryd.prog 50 #[.pointer (some ⟨b, 0, none⟩), .string (str s)] w fun e w' => (∃ n : Int, e = .returned (.tuple #[.int .i64 n, .nilIface])) ∧ Built B b (l ++ s) w' ∧ Below B w w' := by
  have h1 := Any.Builder_WriteString_k wstrLays buildExtra7 B b (Lib.byteCells l) (str s) w h (by rw [Lib.byteCells_length, str_size]; omega) hBw
  have h2 : Calls Tryd.prog 50 #[.pointer (some ⟨b, 0, none⟩), .string (str s)] w _ := h1
  refine h2.mono ?_
  rintro e w' ⟨rfl, h3, h4, _⟩
  refine ⟨⟨_, rfl⟩, ?_, h4⟩
  unfold Built
  rw [Lib.byteCells_append]
  exact .inr h3
theorem buildStr_k (B b : Nat) (l : List UInt8) (w : World) (h : Built B b l w) (hBw : B ≤ w.heap.size) :
    Calls Tryd.prog 52 #[.pointer (some ⟨b, 0, none⟩)] w fun e w' => e = .returned (.string (str l)) ∧ Below B w w' := by
  have h1 := Any.Builder_String_any_k bstrLays buildExtra7 B b l w h hBw
  have h2 : Calls Tryd.prog 52 #[.pointer (some ⟨b, 0, none⟩)] w _ := h1
  refine h2.mono ?_
  rintro e w' ⟨rfl, _, h4, _⟩
  exact ⟨rfl, h4⟩

theorem has_beg (s p : List UInt8) : Lib.hasPrefix s p = begB s p := by
  unfold Lib.hasPrefix begB
  rw [Bool.eq_iff_iff, decide_eq_true_eq, List.isPrefixOf_iff_prefix, List.prefix_iff_eq_take, eq_comm]
theorem cutPrefix_any (s p : List UInt8) (w : World) :
    Calls Tryd.prog 49 #[.string (str s), .string (str p)] w fun e w' => e = .returned (.tuple #[.string (str (if begB s p then s.drop p.length else s)), .bool (begB s p)]) ∧ w' = w := by
  have h1 := Any.strings_CutPrefix cutpLays (str s) (str p) w
  have h2 : Calls Tryd.prog 49 #[.string (str s), .string (str p)] w _ := h1
  refine h2.mono ?_
  rintro e w' ⟨rfl, rfl⟩
  have es : (str s).data.toList = s := by simp [str]
  have ep : (str p).data.toList = p := by simp [str]
  refine ⟨?_, rfl⟩
  rw [es, ep, has_beg]
  unfold Lib.trimPrefix
  rw [has_beg]
  rfl

/-- Of an encoded string that is not empty: how many bytes its first character takes. -/
theorem decode_any (s : List UInt8) (l : List Nat) (w : World) (hS : Ready7 w) (hd : decR s = some l) (h0 : s ≠ []) :
    Calls Tryd.prog 51 #[.string (str s)] w fun e w' => (∃ c : Nat, e = .returned (.tuple #[.int .i32 (c : Int), .int .i64 ((cut1 s).length : Int)])) ∧ Below w.heap.size w w' := by
  have h1 := Any.utf8_DecodeRuneInString decLays (str s) w hS.2.2.1
  have h2 : Calls Tryd.prog 51 #[.string (str s)] w _ := h1
  refine h2.mono ?_
  rintro e w' ⟨rfl, hb⟩
  refine ⟨⟨(Lib.decodeGo (str s)).1, ?_⟩, hb⟩
  obtain ⟨c, m, rfl, hc, hcut, hs, _, _⟩ := cut1_some hd h0
  have hat : atR s = (c, (encC c).length) := by rw [hs]; exact atR_enc hc.1 _
  have hrune : runeAt s = atR s := by
    have e : kindR ((runeAt s).1 : Int) ≠ 0 := fun hz => by
      rcases rune_bad h0 hz with h | h
      · rw [hat] at h
        have h1 := (encC_len c).1
        have h2 : (encC c).length = 0 := h
        omega
      · rw [hat] at h
        exact hc.2 h
    exact (rune_good h0 e).symm
  have hsz : (str s).size ≠ 0 := by
    rw [str_size]
    exact fun h => h0 (List.length_eq_zero_iff.1 h)
  have hgo : Lib.decodeGo (str s) = atR s := by
    unfold Lib.decodeGo
    rw [if_neg hsz, decode_drop, List.drop_zero, hrune]
  rw [hgo, hat, hcut]

end Go.Proofs.YtomkipddbmnipaaDoor

namespace Go.Proofs.YtomkipddbmnipaaDoor
open Go.RowKit

/-- The best rule of the first k ones, as a place. -/
def BestAt (t : List RuleL) (s : List UInt8) (k : Nat) (z : Int) : Prop :=
  (z = -1 ∧ (t.take k).foldl (better s) none = none) ∨ ∃ (j : Nat) (x : RuleL), z = (j : Int) ∧ t[j]? = some x ∧ j < t.length ∧ (t.take k).foldl (better s) none = some x
theorem bestAt_zero (t : List RuleL) (s : List UInt8) : BestAt t s 0 (-1) := .inl ⟨rfl, by simp⟩
theorem fold_next {t : List RuleL} {k : Nat} {x : RuleL} (hx : t[k]? = some x) (s : List UInt8) : (t.take (k + 1)).foldl (better s) none = better s ((t.take k).foldl (better s) none) x := by
  rw [take_next hx, List.foldl_append]
  rfl
theorem bestAt_no {t : List RuleL} {s : List UInt8} {k : Nat} {z : Int} {x : RuleL} (h : BestAt t s k z) (hx : t[k]? = some x) (hb : begB s x.1 = false) : BestAt t s (k + 1) z := by
  have e : ∀ o, better s o x = o := fun o => by unfold better; rw [hb]; rfl
  rcases h with ⟨h1, h2⟩ | ⟨j, y, h1, h2, h3, h4⟩
  · exact .inl ⟨h1, by rw [fold_next hx, e]; exact h2⟩
  · exact .inr ⟨j, y, h1, h2, h3, by rw [fold_next hx, e]; exact h4⟩
theorem bestAt_first {t : List RuleL} {s : List UInt8} {k : Nat} {x : RuleL} (h : (t.take k).foldl (better s) none = none) (hx : t[k]? = some x) (hb : begB s x.1 = true) : BestAt t s (k + 1) (k : Int) := by
  refine .inr ⟨k, x, rfl, hx, (List.getElem?_eq_some_iff.1 hx).1, ?_⟩
  rw [fold_next hx, h]
  unfold better
  rw [hb]
  rfl
theorem bestAt_more {t : List RuleL} {s : List UInt8} {k : Nat} {x y : RuleL} (h : (t.take k).foldl (better s) none = some y) (hx : t[k]? = some x) (hb : begB s x.1 = true) (hl : y.1.length < x.1.length) : BestAt t s (k + 1) (k : Int) := by
  refine .inr ⟨k, x, rfl, hx, (List.getElem?_eq_some_iff.1 hx).1, ?_⟩
  rw [fold_next hx, h]
  unfold better
  rw [hb]
  simp [hl]
theorem bestAt_less {t : List RuleL} {s : List UInt8} {k j : Nat} {x y : RuleL} (h : (t.take k).foldl (better s) none = some y) (hy : t[j]? = some y) (hx : t[k]? = some x) (hl : ¬ y.1.length < x.1.length) : BestAt t s (k + 1) (j : Int) := by
  refine .inr ⟨j, y, rfl, hy, (List.getElem?_eq_some_iff.1 hy).1, ?_⟩
  rw [fold_next hx, h]
  unfold better
  rw [if_neg (by simp [hl])]
theorem cut_one {s : List UInt8} {l : List Nat} (h : decR s = some l) (h0 : s ≠ []) : cutR s 1 = cut1 s := by
  obtain ⟨c, m, rfl, _, hc, _⟩ := cut1_some h h0
  rw [cutR_some h (by decide), hc]
  simp [encL]
theorem strs_neq {a : List UInt8} (h : a ≠ []) : ((str a).toList != []) = true := by
  rw [str_toList]
  cases a with
  | nil => exact absurd rfl h
  | cons x a => rfl
def sizeOf_ : Value → Nat
  | .string b => b.size
  | _ => 0

set_option maxRecDepth 20000 in
set_option maxHeartbeats 6400000 in
theorem refRun_any (A : Option Addr) (n c : Nat) (t : List RuleL) (s : List UInt8) (L : List Nat) (w : World) (h : Table w A n c t) (hg : Good t) (hs : decR s = some L) (hlen : s.length ≤ 5000) :
    Calls Tryd.prog 38 #[.slice A n c, .string (str s)] w fun e w' => e = .returned (.tuple #[.string (str (runL t s).1), .int .i64 ((runL t s).2 : Int)]) ∧ Below w.heap.size w w' := by
  have HL := Lib.hid h.arr.len
  have hn := h.few
  have HSh := Lib.hid h.short
  have HG := Lib.hid hg
  obtain ⟨R1, hR1⟩ : ∃ R, (runL t s).1 = R := ⟨_, rfl⟩
  obtain ⟨R2, hR2⟩ : ∃ R, (runL t s).2 = R := ⟨_, rfl⟩
  rw [hR1, hR2]
  have HR : Hid (runL t s = (R1, R2)) := Lib.hid (by rw [← hR1, ← hR2])
  have HD : Hid (∃ l, decR s = some l) := Lib.hid ⟨_, hs⟩
  obtain ⟨N, hN⟩ : ∃ N, s.length = N := ⟨_, rfl⟩
  have HN := Lib.hid hN
  rw [hN] at hlen
  clear hR1 hR2 hs hg hN
  go_enter Tryd.func38, Tryd.ntmps38
  go_wp2
  go_loopw [1, 6, 7] (fun sv1 ov pv wr => ∃ (r o : List UInt8) (p q : Nat), sv1 = .string (str r) ∧ ov = .string (str o) ∧ pv = .int .i64 (p : Int) ∧ r.length + q = N ∧ o.length ≤ 1000 * q ∧ p ≤ q ∧ Hid (∃ l, decR r = some l) ∧ Hid ((runL t s).1 = o ++ (runL t r).1 ∧ (runL t s).2 = p + (runL t r).2) ∧ Below w.heap.size w wr) (fun sv1 _ _ _ => sizeOf_ sv1)
  case atStart => exact ⟨s, [], 0, 0, rfl, rfl, rfl, by have := HN.out; omega, by simp, by omega, HD, Lib.hid ⟨rfl, by omega⟩, Below.refl _ _⟩
  case round =>
    obtain ⟨r, o, p, q, rfl, rfl, rfl, hrq, hol, hpq, Hd, HRun, hb⟩ := hrel
    have hsr : (str r).size = r.length := rfl
    by_cases h0 : r = []
    · subst h0
      have z0 : (str ([] : List UInt8)).toList = [] := str_toList []
      have HE : Hid (R1 = o ∧ R2 = p) := Lib.hid (by
        have h1 := HRun.out
        rw [HR.out, run_nil] at h1
        exact ⟨by simpa using h1.1, by simpa using h1.2⟩)
      go_wp2
      go_ret2
      rw [HE.out.1, HE.out.2]
      exact ⟨rfl, hb⟩
    · have z0 : ¬ (str r).toList = [] := by rw [str_toList]; exact h0
      have z1 := strs_ne h0
      have z2 := strs_some h0
      have hr1 : 1 ≤ r.length := List.length_pos_iff.2 h0
      have H0 := Lib.hid h0
      clear h0
      go_wp2
      go_loopw [8, 9] (fun bv iv_ wi => ∃ (k : Nat) (z : Int), k ≤ n ∧ iv_ = .int .i64 (k : Int) ∧ bv = .int .i64 z ∧ Hid (BestAt t r k z) ∧ Below w.heap.size w wi) (fun _ iv_ _ => n - (intOf iv_).toNat)
      case atStart => exact ⟨0, -1, by omega, rfl, rfl, Lib.hid (bestAt_zero t r), hb⟩
      case round =>
        obtain ⟨k, z, hk, rfl, rfl, HB, hbi⟩ := hrel
        by_cases hlt : k < n
        · have t1 : decide ((k : Int) < (n : Int)) = true := by simp; omega
          have kz : (k : Int) < (n : Int) := by omega
          obtain ⟨b0, o0, rfl, hB0, hc0⟩ := h.cells (by omega)
          obtain ⟨x, hx⟩ : ∃ a, t[k]? = some a := ⟨_, List.getElem?_eq_getElem (by have := HL.out; omega)⟩
          have hxs := HSh.out x (List.mem_of_getElem? hx)
          have d0 := (hbi.cell (p := ⟨b0, o0 + k * 2, none⟩) hB0).trans (hc0 k x hx).1
          have HBg := Lib.hid fun W => refBegins_any r x.1 W (by omega) (by omega)
          have hsx : (str x.1).size = x.1.length := rfl
          obtain ⟨bb, hbb⟩ : ∃ b, begB r x.1 = b := ⟨_, rfl⟩
          rw [hbb] at HBg
          cases bb with
          | false =>
            have HB2 := Lib.hid (bestAt_no HB.out hx hbb)
            clear hc0 hx hbb
            go_wp2
            go_quiet ((go_at_call 33; exact Calls.quiet_of_same (HBg.out _)))
            go_wp2
            go_roundw
            case rel => exact ⟨k + 1, z, by omega, by go_num, rfl, HB2, below_drewN hbi _⟩
            case measure => simp [intOf]; omega
          | true =>
            rcases HB.out with ⟨rfl, hnone⟩ | ⟨j, y, rfl, hy, hjl, hsome⟩
            · have HB2 := Lib.hid (bestAt_first hnone hx hbb)
              clear hc0 hx hbb hnone
              go_wp2
              go_quiet ((go_at_call 33; exact Calls.quiet_of_same (HBg.out _)))
              go_wp2
              go_roundw
              case rel => exact ⟨k + 1, (k : Int), by omega, by go_num, rfl, HB2, below_drewN hbi _⟩
              case measure => simp [intOf]; omega
            · have jz : (j : Int) < (n : Int) := by have := HL.out; omega
              have e0 := (hbi.cell (p := ⟨b0, o0 + j * 2, none⟩) hB0).trans (hc0 j y hy).1
              have hsy : (str y.1).size = y.1.length := rfl
              have t2 : decide ((j : Int) < 0) = false := by simp
              by_cases hl : y.1.length < x.1.length
              · have t3 : decide (y.1.length < x.1.length) = true := by simpa using hl
                have t3' : decide ((y.1.length : Int) < (x.1.length : Int)) = true := by simp; omega
                have HB2 := Lib.hid (bestAt_more hsome hx hbb hl)
                clear hc0 hx hbb hsome hy hl
                go_wp2
                go_quiet ((go_at_call 33; exact Calls.quiet_of_same (HBg.out _)))
                go_wp2
                go_roundw
                case rel => exact ⟨k + 1, (k : Int), by omega, by go_num, rfl, HB2, below_drewN hbi _⟩
                case measure => simp [intOf]; omega
              · have t3 : decide (y.1.length < x.1.length) = false := by simpa using hl
                have t3' : decide ((y.1.length : Int) < (x.1.length : Int)) = false := by simp; omega
                have HB2 := Lib.hid (bestAt_less hsome hy hx hl)
                clear hc0 hx hbb hsome hy hl
                go_wp2
                go_quiet ((go_at_call 33; exact Calls.quiet_of_same (HBg.out _)))
                go_wp2
                go_roundw
                case rel => exact ⟨k + 1, (j : Int), by omega, by go_num, rfl, HB2, below_drewN hbi _⟩
                case measure => simp [intOf]; omega
        · obtain rfl : k = n := by omega
          have t1 : decide ((k : Int) < (k : Int)) = false := by simp
          have hall : (t.take k).foldl (better r) none = bestL t r := by rw [List.take_of_length_le (by rw [HL.out]; omega)]; rfl
          have hb0 := HB.out
          unfold BestAt at hb0
          rw [hall] at hb0
          rcases hb0 with ⟨rfl, hnone⟩ | ⟨j, y, rfl, hy, hjl, hsome⟩
          · obtain ⟨l, hl⟩ := Hd.out
            have hcut := cut_one hl H0.out
            obtain ⟨ch, m, _, hch, hc1, hrs, hm, _⟩ := cut1_some hl H0.out
            have hrn := run_none HG.out hl H0.out hnone
            have hcl := encC_len ch
            have hlen1 := len_enc hrs
            have HC := Lib.hid fun W => refCut_any r 1 W (by omega)
            rw [hcut] at HC
            obtain ⟨cc, hcc⟩ : ∃ x, cut1 r = x := ⟨_, rfl⟩
            rw [hcc] at HC hrn hc1
            have hcl2 : 1 ≤ cc.length ∧ cc.length ≤ 3 := by rw [hc1]; exact hcl
            have hcr : cc.length ≤ r.length := by rw [hc1]; omega
            have hadd : ∀ W : World, (Op.stringOp .add (str o) (str cc)).run Tryd.prog W = _ := fun W => add_strs o cc (by omega)
            have hsl := fun W => str_suf (P := Tryd.prog) 9 Tryd.underlying9 r cc.length hcr W
            have hdr : r.drop cc.length = encL m := by rw [← hcc]; exact drop_cut (by rw [hcc]; exact hc1) hrs
            have HRun2 : Hid ((runL t s).1 = (o ++ cc) ++ (runL t (r.drop cc.length)).1 ∧ (runL t s).2 = p + 1 + (runL t (r.drop cc.length)).2) := Lib.hid (by
              have h1 := HRun.out
              rw [hrn] at h1
              exact ⟨by rw [h1.1, List.append_assoc], by rw [h1.2]; show p + (_ + 1) = _; omega⟩)
            have Hd2 : Hid (∃ l, decR (r.drop cc.length) = some l) := Lib.hid ⟨m, by rw [hdr]; exact hm⟩
            have hdl : (r.drop cc.length).length + (q + cc.length) = N := by rw [List.length_drop]; omega
            have hol2 : (o ++ cc).length ≤ 1000 * (q + cc.length) := by rw [List.length_append]; omega
            have hscc : (str cc).size = cc.length := rfl
            obtain ⟨r2, hr2⟩ : ∃ x, r.drop cc.length = x := ⟨_, rfl⟩
            have hlt2 : r2.length < r.length := by rw [← hr2, List.length_drop]; omega
            rw [hr2] at hsl HRun2 Hd2 hdl
            obtain ⟨nc, hnc⟩ : ∃ x, cc.length = x := ⟨_, rfl⟩
            rw [hnc] at hsl hscc hdl hol2 hcl2
            clear hall hl hcut hrs hm hrn hcl hlen1 hcc hc1 hcr hdr hr2 hnc hnone hch
            go_wp2_with fail
            refine (HC.out _).mono ?_
            rintro e w3 ⟨rfl, k3⟩
            go_wp2
            go_roundw
            case rel => exact ⟨r2, o ++ cc, p + 1, q + nc, rfl, rfl, by go_num, hdl, hol2, by omega, Hd2, HRun2, below_next hbi k3⟩
            case measure => exact hlt2
          · obtain ⟨b0, o0, rfl, hB0, hc0⟩ := h.cells (by have := HL.out; omega)
            have hys := HSh.out y (List.mem_of_getElem? hy)
            obtain ⟨l, hl⟩ := Hd.out
            have hrn := run_some HG.out hl H0.out hsome
            obtain ⟨hym, hby⟩ := best_mem hsome
            obtain ⟨kk, hkk, _, _, _, _⟩ := side_enc (HG.out y hym)
            obtain ⟨m, hm, _⟩ := enc_rest hl hkk hby
            have hy1 : 1 ≤ y.1.length := List.length_pos_iff.2 (side_ne (HG.out y hym))
            have hyr := beg_len hby
            have jz : (j : Int) < (k : Int) := by have := HL.out; omega
            have d0 := (hbi.cell (p := ⟨b0, o0 + j * 2, none⟩) hB0).trans (hc0 j y hy).1
            have d1 := (hbi.cell (p := ⟨b0, o0 + j * 2 + 1, none⟩) hB0).trans (hc0 j y hy).2
            have t2 : decide ((j : Int) < 0) = false := by simp
            have hadd : ∀ W : World, (Op.stringOp .add (str o) (str y.2)).run Tryd.prog W = _ := fun W => add_strs o y.2 (by omega)
            have hsl := fun W => str_suf (P := Tryd.prog) 9 Tryd.underlying9 r y.1.length hyr W
            have HRun2 : Hid ((runL t s).1 = (o ++ y.2) ++ (runL t (r.drop y.1.length)).1 ∧ (runL t s).2 = p + (runL t (r.drop y.1.length)).2) := Lib.hid (by
              have h1 := HRun.out
              rw [hrn] at h1
              exact ⟨by rw [h1.1, List.append_assoc], h1.2⟩)
            have Hd2 : Hid (∃ l, decR (r.drop y.1.length) = some l) := Lib.hid ⟨m, hm⟩
            have hdl : (r.drop y.1.length).length + (q + y.1.length) = N := by rw [List.length_drop]; omega
            have hol2 : (o ++ y.2).length ≤ 1000 * (q + y.1.length) := by rw [List.length_append]; omega
            have hsy : (str y.1).size = y.1.length := rfl
            obtain ⟨r2, hr2⟩ : ∃ x, r.drop y.1.length = x := ⟨_, rfl⟩
            have hlt2 : r2.length < r.length := by rw [← hr2, List.length_drop]; omega
            rw [hr2] at hsl HRun2 Hd2 hdl
            obtain ⟨nc, hnc⟩ : ∃ x, y.1.length = x := ⟨_, rfl⟩
            rw [hnc] at hsl hsy hdl hol2
            clear hall hl hrn hm hyr hr2 hnc hsome hc0 hy hkk hby hym
            go_wp2
            go_roundw
            case rel => exact ⟨r2, o ++ y.2, p, q + nc, rfl, rfl, rfl, hdl, hol2, by omega, Hd2, HRun2, hbi⟩
            case measure => exact hlt2

end Go.Proofs.YtomkipddbmnipaaDoor
