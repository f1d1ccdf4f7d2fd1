/-
  The program's Class and Has: a search among the spans.
  The program's Has, encoded, Count: ranges over a string.
  The program's Decode, Valid, Cut, Script.
  The numbers of this program for the library's contracts of strings.Builder.
-/
import Derived.Test.YtmgofhbdaopapaaDoorPkAJ
import Derived.BigQuiet
import Derived.Test.YtmgofhbdaopapaaDoorPkAF
import Derived.Test.YtmgofhbdaopapaaDoorProg
import Derived.WalkKit
import Derived.Shelf.Strings.BuilderK
import Derived.Shelf.Strings.BuilderRune
namespace Go.Proofs.YtmgofhbdaopapaaDoor
open Go.RowKit

def lastOf (i : Nat) : Nat := (spanAt i).2.1
def firstOf (i : Nat) : Nat := (spanAt i).1

set_option maxRecDepth 20000 in
set_option maxHeartbeats 1600000 in
theorem pred_any (c : Int) (b i : Nat) (w : World) (hS : Spans w) (hi : i < 41) (hc : w.cell? ⟨b, 0, none⟩ = some (.int .i64 c)) :
    Calls Tryd.prog 72 #[.int .i64 (i : Int), .pointer (some ⟨b, 0, none⟩)] w fun e w' => e = .returned (.bool (decide (c ≤ (lastOf i : Int)))) ∧ ∃ q, w' = w.drewN q := by
  have h1 := (hS.cells hi).2.1
  have hs := span_small ⟨i, hi⟩
  obtain ⟨z, hz⟩ : ∃ z, z = (spanAt i).2.1 := ⟨_, rfl⟩
  have hlz : lastOf i = z := hz.symm
  simp only at hs
  rw [← hz] at h1 hs
  rw [hlz]
  clear hz hlz hS
  have hi1 : (i : Int) < (41 : Int) := by omega
  go_enter Tryd.func72, Tryd.ntmps72
  go_wp2
  go_quiet (fail)
  go_wp2
  go_ret
  exact ⟨rfl, nq, rfl⟩

set_option maxRecDepth 20000 in
set_option maxHeartbeats 1600000 in
theorem search_any (c : Int) (b : Nat) (w : World) (hS : Spans w) (hc : w.cell? ⟨b, 0, none⟩ = some (.int .i64 c)) :
    Calls Tryd.prog 71 #[.int .i64 41, .func (.func 72) #[] #[.pointer (some ⟨b, 0, none⟩)]] w fun e w' =>
      ∃ i : Nat, e = .returned (.int .i64 (i : Int)) ∧ i ≤ 41 ∧ (∀ t, t < i → (lastOf t : Int) < c) ∧ (∀ t, i ≤ t → t < 41 → c ≤ (lastOf t : Int)) ∧ ∃ q, w' = w.drewN q := by
  have HP := Lib.hid fun (i q : Nat) (hi : i < 41) => pred_any c b i (w.drewN q) hS hi hc
  clear hS hc
  go_enter Tryd.func71, Tryd.ntmps71
  go_wp2
  go_loopw [5, 6] (fun s5 s6 wr => ∃ lo hi q : Nat, s5 = .int .i64 (lo : Int) ∧ s6 = .int .i64 (hi : Int) ∧ lo ≤ hi ∧ hi ≤ 41 ∧ wr = w.drewN q ∧
    Hid ((∀ t, t < lo → (lastOf t : Int) < c) ∧ (∀ t, hi ≤ t → t < 41 → c ≤ (lastOf t : Int)))) (fun s5 s6 _ => (intOf s6).toNat - (intOf s5).toNat)
  case atStart => exact ⟨0, 41, 0, rfl, rfl, by omega, by omega, rfl, Lib.hid ⟨fun t ht => by omega, fun t h1 h2 => by omega⟩⟩
  case round =>
    obtain ⟨lo, hi, q, rfl, rfl, hlh, hh, rfl, HI⟩ := hrel
    by_cases hlt : lo < hi
    · have t0 : decide ((lo : Int) < (hi : Int)) = true := by simp; omega
      obtain ⟨m, hm⟩ : ∃ m, m = (lo + hi) / 2 := ⟨_, rfl⟩
      have hm1 : ((lo : Int) + (hi : Int)) / 2 = (m : Int) := by omega
      have hml : lo ≤ m := by omega
      have hmh : m < hi := by omega
      have hC := HP.out m q (by omega)
      by_cases hp : c ≤ (lastOf m : Int)
      · have HE : Hid ((∀ t, t < lo → (lastOf t : Int) < c) ∧ (∀ t, m ≤ t → t < 41 → c ≤ (lastOf t : Int))) := Lib.hid ⟨HI.out.1, fun t h1 h2 => by
          have := last_asc ⟨m, by omega⟩ ⟨t, h2⟩ h1
          unfold lastOf at *
          simp only at this
          omega⟩
        rw [decide_eq_true hp] at hC
        have HC := Lib.hid hC
        clear hC hm hp
        go_wp2_with fail
        try rw [hm1]
        refine HC.out.mono ?_
        rintro e w' ⟨rfl, q2, rfl⟩
        go_wp2
        go_roundw
        case rel => exact ⟨lo, m, _, rfl, by go_num, hml, by omega, rfl, HE⟩
        case measure => simp [intOf]; omega
      · have HE : Hid ((∀ t, t < m + 1 → (lastOf t : Int) < c) ∧ (∀ t, hi ≤ t → t < 41 → c ≤ (lastOf t : Int))) := Lib.hid ⟨fun t ht => by
          have := last_asc ⟨t, by omega⟩ ⟨m, by omega⟩ (show t ≤ m by omega)
          unfold lastOf at *
          simp only at this
          omega, HI.out.2⟩
        rw [decide_eq_false hp] at hC
        have HC := Lib.hid hC
        clear hC hm hp
        go_wp2_with fail
        try rw [hm1]
        refine HC.out.mono ?_
        rintro e w' ⟨rfl, q2, rfl⟩
        go_wp2
        go_roundw
        case rel => exact ⟨m + 1, hi, _, by go_num, rfl, by omega, hh, rfl, HE⟩
        case measure => simp [intOf]; omega
    · obtain rfl : lo = hi := by omega
      go_wp2
      go_ret
      exact ⟨lo, rfl, hh, HI.out.1, HI.out.2, q, rfl⟩

/-- The number whose span is looked for. -/
def plainC (c : Int) : Int := if inB c 65281 65374 = true then c - 65248 else c
theorem clsR_plain (c : Int) : clsR c = clsN (plainC c) := by
  unfold clsR plainC
  split <;> rfl

set_option maxRecDepth 20000 in
set_option maxHeartbeats 1600000 in
theorem prClass_any (c : Int) (w : World) (hS : Spans w) :
    Calls Tryd.prog 58 #[.int .i64 c] w fun e w' => e = .returned (two (clsR c).1 (clsR c).2) ∧ Below w.heap.size w w' := by
  obtain ⟨R, hR⟩ : ∃ R, clsR c = R := ⟨_, rfl⟩
  have HR : Hid (clsN (plainC c) = R) := Lib.hid (by rw [← clsR_plain]; exact hR)
  rw [hR]
  clear hR
  by_cases h1 : 65281 ≤ c
  · have t1 : decide (65281 ≤ c) = true := by simpa using h1
    by_cases h2 : c ≤ 65374
    · have t2 : decide (c ≤ 65374) = true := by simpa using h2
      have hp : plainC c = c - 65248 := by unfold plainC inB; rw [t1, t2]; rfl
      rw [hp] at HR
      go_enter Tryd.func58, Tryd.ntmps58
      go_wp2_with fail
      have hb := below_new (Below.refl w.heap.size w) (.cells #[.int .i64 (c - 65248)] 3)
      have hcell : (w.alloc (.cells #[.int .i64 (c - 65248)] 3)).cell? ⟨w.heap.size, 0, none⟩ = some (.int .i64 (c - 65248)) := (Box.made w 3 #[.int .i64 (c - 65248)]).cell 0
      refine (search_any (c - 65248) w.heap.size _ (hS.below hb) hcell).mono ?_
      rintro e w' ⟨i, rfl, hi, hlo, hhi, q, rfl⟩
      have hcls := cls_by_span hlo hhi hi
      rw [HR.out] at hcls
      have HC := Lib.hid hcls
      clear hcls hlo hhi
      by_cases h41 : i = 41
      · subst h41
        have t4 : (((41 : Nat) : Int) == 41) = true := rfl
        have HE : Hid (R = (0, 0)) := Lib.hid (by rw [HC.out, if_pos (.inl rfl)])
        go_wp2
        go_quiet (fail)
        go_wp2
        go_ret2
        rw [HE.out]
        exact ⟨ret_two rfl rfl, by repeat first | exact hb | refine below_drewN ?_ _⟩
      · have t4 : ((i : Int) == 41) = false := eqb_false (by omega)
        have hi4 : i < 41 := by omega
        have hiz : (i : Int) < (41 : Int) := by omega
        obtain ⟨c0, c1, c2, c3⟩ := (hS.below hb).cells hi4
        have hsm := span_small ⟨i, hi4⟩
        simp only at hsm
        obtain ⟨sp, hsp⟩ : ∃ sp, spanAt i = sp := ⟨_, rfl⟩
        rw [hsp] at c0 c1 c2 c3 hsm HC
        obtain ⟨fi, la, sc, ki⟩ := sp
        obtain ⟨s1, s2, s3, s4⟩ := hsm
        simp only at c0 c1 c2 c3 s1 s2 s3 s4
        clear hsp
        by_cases hf : (c - 65248) < (fi : Int)
        · have t5 : decide ((c - 65248) < (fi : Int)) = true := by simpa using hf
          have HE : Hid (R = (0, 0)) := Lib.hid (by rw [HC.out, if_pos (.inr hf)])
          go_wp2
          go_quiet (fail)
          go_wp2
          go_ret2
          rw [HE.out]
          exact ⟨ret_two rfl rfl, by repeat first | exact hb | refine below_drewN ?_ _⟩
        · have t5 : decide ((c - 65248) < (fi : Int)) = false := by simpa using hf
          have HE : Hid (R = (sc, ki)) := Lib.hid (by rw [HC.out, if_neg (fun h => h.elim h41 hf)])
          go_wp2
          go_quiet (fail)
          go_wp2
          go_quiet (fail)
          go_wp2
          go_ret2
          rw [HE.out]
          exact ⟨ret_two rfl rfl, by repeat first | exact hb | refine below_drewN ?_ _⟩
    · have t2 : decide (c ≤ 65374) = false := by simpa using h2
      have hp : plainC c = c := by unfold plainC inB; rw [t1, t2]; rfl
      rw [hp] at HR
      go_enter Tryd.func58, Tryd.ntmps58
      go_wp2_with fail
      have hb := below_new (Below.refl w.heap.size w) (.cells #[.int .i64 (c)] 3)
      have hcell : (w.alloc (.cells #[.int .i64 (c)] 3)).cell? ⟨w.heap.size, 0, none⟩ = some (.int .i64 (c)) := (Box.made w 3 #[.int .i64 (c)]).cell 0
      refine (search_any (c) w.heap.size _ (hS.below hb) hcell).mono ?_
      rintro e w' ⟨i, rfl, hi, hlo, hhi, q, rfl⟩
      have hcls := cls_by_span hlo hhi hi
      rw [HR.out] at hcls
      have HC := Lib.hid hcls
      clear hcls hlo hhi
      by_cases h41 : i = 41
      · subst h41
        have t4 : (((41 : Nat) : Int) == 41) = true := rfl
        have HE : Hid (R = (0, 0)) := Lib.hid (by rw [HC.out, if_pos (.inl rfl)])
        go_wp2
        go_quiet (fail)
        go_wp2
        go_ret2
        rw [HE.out]
        exact ⟨ret_two rfl rfl, by repeat first | exact hb | refine below_drewN ?_ _⟩
      · have t4 : ((i : Int) == 41) = false := eqb_false (by omega)
        have hi4 : i < 41 := by omega
        have hiz : (i : Int) < (41 : Int) := by omega
        obtain ⟨c0, c1, c2, c3⟩ := (hS.below hb).cells hi4
        have hsm := span_small ⟨i, hi4⟩
        simp only at hsm
        obtain ⟨sp, hsp⟩ : ∃ sp, spanAt i = sp := ⟨_, rfl⟩
        rw [hsp] at c0 c1 c2 c3 hsm HC
        obtain ⟨fi, la, sc, ki⟩ := sp
        obtain ⟨s1, s2, s3, s4⟩ := hsm
        simp only at c0 c1 c2 c3 s1 s2 s3 s4
        clear hsp
        by_cases hf : (c) < (fi : Int)
        · have t5 : decide ((c) < (fi : Int)) = true := by simpa using hf
          have HE : Hid (R = (0, 0)) := Lib.hid (by rw [HC.out, if_pos (.inr hf)])
          go_wp2
          go_quiet (fail)
          go_wp2
          go_ret2
          rw [HE.out]
          exact ⟨ret_two rfl rfl, by repeat first | exact hb | refine below_drewN ?_ _⟩
        · have t5 : decide ((c) < (fi : Int)) = false := by simpa using hf
          have HE : Hid (R = (sc, ki)) := Lib.hid (by rw [HC.out, if_neg (fun h => h.elim h41 hf)])
          go_wp2
          go_quiet (fail)
          go_wp2
          go_quiet (fail)
          go_wp2
          go_ret2
          rw [HE.out]
          exact ⟨ret_two rfl rfl, by repeat first | exact hb | refine below_drewN ?_ _⟩
  · have t1 : decide (65281 ≤ c) = false := by simpa using h1
    have hp : plainC c = c := by unfold plainC inB; rw [t1]; rfl
    rw [hp] at HR
    go_enter Tryd.func58, Tryd.ntmps58
    go_wp2_with fail
    have hb := below_new (Below.refl w.heap.size w) (.cells #[.int .i64 (c)] 3)
    have hcell : (w.alloc (.cells #[.int .i64 (c)] 3)).cell? ⟨w.heap.size, 0, none⟩ = some (.int .i64 (c)) := (Box.made w 3 #[.int .i64 (c)]).cell 0
    refine (search_any (c) w.heap.size _ (hS.below hb) hcell).mono ?_
    rintro e w' ⟨i, rfl, hi, hlo, hhi, q, rfl⟩
    have hcls := cls_by_span hlo hhi hi
    rw [HR.out] at hcls
    have HC := Lib.hid hcls
    clear hcls hlo hhi
    by_cases h41 : i = 41
    · subst h41
      have t4 : (((41 : Nat) : Int) == 41) = true := rfl
      have HE : Hid (R = (0, 0)) := Lib.hid (by rw [HC.out, if_pos (.inl rfl)])
      go_wp2
      go_quiet (fail)
      go_wp2
      go_ret2
      rw [HE.out]
      exact ⟨ret_two rfl rfl, by repeat first | exact hb | refine below_drewN ?_ _⟩
    · have t4 : ((i : Int) == 41) = false := eqb_false (by omega)
      have hi4 : i < 41 := by omega
      have hiz : (i : Int) < (41 : Int) := by omega
      obtain ⟨c0, c1, c2, c3⟩ := (hS.below hb).cells hi4
      have hsm := span_small ⟨i, hi4⟩
      simp only at hsm
      obtain ⟨sp, hsp⟩ : ∃ sp, spanAt i = sp := ⟨_, rfl⟩
      rw [hsp] at c0 c1 c2 c3 hsm HC
      obtain ⟨fi, la, sc, ki⟩ := sp
      obtain ⟨s1, s2, s3, s4⟩ := hsm
      simp only at c0 c1 c2 c3 s1 s2 s3 s4
      clear hsp
      by_cases hf : (c) < (fi : Int)
      · have t5 : decide ((c) < (fi : Int)) = true := by simpa using hf
        have HE : Hid (R = (0, 0)) := Lib.hid (by rw [HC.out, if_pos (.inr hf)])
        go_wp2
        go_quiet (fail)
        go_wp2
        go_ret2
        rw [HE.out]
        exact ⟨ret_two rfl rfl, by repeat first | exact hb | refine below_drewN ?_ _⟩
      · have t5 : decide ((c) < (fi : Int)) = false := by simpa using hf
        have HE : Hid (R = (sc, ki)) := Lib.hid (by rw [HC.out, if_neg (fun h => h.elim h41 hf)])
        go_wp2
        go_quiet (fail)
        go_wp2
        go_quiet (fail)
        go_wp2
        go_ret2
        rw [HE.out]
        exact ⟨ret_two rfl rfl, by repeat first | exact hb | refine below_drewN ?_ _⟩

end Go.Proofs.YtmgofhbdaopapaaDoor

namespace Go.Proofs.YtmgofhbdaopapaaDoor
open Go.RowKit

set_option maxHeartbeats 1600000 in
theorem prHas_any (c : Int) (w : World) (hS : Spans w) :
    Calls Tryd.prog 36 #[.int .i64 c] w fun e w' => e = .returned (.bool (hasR c)) ∧ Below w.heap.size w w' := by
  have hcl := prClass_any c w hS
  obtain ⟨a, ha⟩ : ∃ a, a = (clsR c).1 := ⟨_, rfl⟩
  obtain ⟨b, hb⟩ : ∃ b, b = (clsR c).2 := ⟨_, rfl⟩
  rw [← ha, ← hb] at hcl
  have HC := Lib.hid hcl
  have HB : Hid (hasR c = (b != 0)) := Lib.hid (by rw [hb]; rfl)
  clear hcl ha hb
  go_enter Tryd.func36, Tryd.ntmps36
  go_wp2_with fail
  refine HC.out.mono ?_
  rintro e w1 ⟨rfl, k1⟩
  unfold two
  go_wp2
  go_ret
  rw [HB.out]
  refine ⟨ret_bool ?_, k1⟩
  cases b <;> simp
  omega

theorem iterPos_at {w : World} {k p : Nat} {s : ByteArray} (h : w.heap[k]? = some (.stringIter s p)) : w.iterPos k = p := by simp [World.iterPos, h]
theorem isSome_of {s : List UInt8} {l : List Nat} (h : decR s = some l) : (decR s).isSome = true := by rw [h]; rfl
theorem isSome_no {s : List UInt8} (h : decR s = none) : (decR s).isSome = false := by rw [h]; rfl

set_option maxRecDepth 20000 in
set_option maxHeartbeats 1600000 in
theorem encoded_any (s : List UInt8) (w : World) (hS : Spans w) :
    Calls Tryd.prog 25 #[.string (str s)] w fun e w' => e = .returned (.bool (decR s).isSome) ∧ Below w.heap.size w w' := by
  have hsz : (str s).size = s.length := rfl
  obtain ⟨R, hR⟩ : ∃ R, (decR s).isSome = R := ⟨_, rfl⟩
  rw [hR]
  have HR := Lib.hid hR
  clear hR
  go_enter Tryd.func25, Tryd.ntmps25
  go_wp2
  go_loopw [] (fun wr => ∃ (pos : Nat) (l : List Nat), wr.heap[w.heap.size]? = some (.stringIter (str s) pos) ∧ Hid (Past s pos l) ∧ Below w.heap.size w wr) (fun wr => s.length - wr.iterPos w.heap.size)
  case atStart =>
    exact ⟨0, [], World.iter_heap w (str s) 0, Lib.hid (Past.start s), (Below.refl _ _).alloc (Nat.le_refl _) _⟩
  case round =>
    obtain ⟨pos, l, hit, HP, hb⟩ := hrel
    have hks : w.heap.size < wr.heap.size := (Array.getElem?_eq_some_iff.1 hit).1
    by_cases hp : pos < s.length
    · obtain ⟨c, n, hcn⟩ : ∃ c n, Utf8.decode (str s) pos = (c, n) := ⟨_, _, rfl⟩
      have hnx : ∀ ty, (Instr.next (.pointer (some ⟨w.heap.size, 0, none⟩)) true ty).run Tryd.prog wr = _ := fun ty => Lib.run_next_any_at wr w.heap.size (str s) pos ty hit hp
      have hit2 := Lib.iterAt_heap wr w.heap.size (str s) pos (pos + (Utf8.decode (str s) pos).2) hit
      have hbw2 := Lib.below_iterAt hb (k := w.heap.size) (Nat.le_refl _) (str s) (pos + (Utf8.decode (str s) pos).2)
      have hcm := decode_le (str s) pos
      simp only [hcn] at hnx hit2 hbw2 hcm
      have hcz : (c : Int) ≤ 2147483647 := by omega
      have hcz0 : (0 : Int) ≤ (c : Int) := by omega
      have hS2 : Spans _ := hS.below hbw2
      have HH := Lib.hid (prHas_any (c : Int) _ hS2)
      cases hc : hasR (c : Int) with
      | true =>
        obtain ⟨h1, h0⟩ := HP.out.rune hp hcn hc
        have HN := Lib.hid h1
        have hle := h1.1
        rw [hc] at HH
        clear hcn h1 hc
        go_wp2_with fail
        refine HH.out.mono ?_
        rintro e w3 ⟨rfl, k3⟩
        go_wp2
        go_roundw
        case rel => exact ⟨pos + n, l ++ [c], (k3.block _ (Array.getElem?_eq_some_iff.1 hit2).1).trans hit2, HN, below_next hbw2 k3⟩
        case measure =>
          rw [iterPos_at ((k3.block _ (Array.getElem?_eq_some_iff.1 hit2).1).trans hit2), iterPos_at hit]
          omega
      | false =>
        have hn := HP.out.rune_bad hp hcn hc
        have HE : Hid (R = false) := Lib.hid (by rw [← HR.out]; exact isSome_no hn)
        rw [hc] at HH
        clear hcn hc hn
        go_wp2_with fail
        refine HH.out.mono ?_
        rintro e w3 ⟨rfl, k3⟩
        go_wp2
        go_ret
        rw [HE.out]
        exact ⟨rfl, below_next hbw2 k3⟩
    · have HE : Hid (R = true) := Lib.hid (by rw [← HR.out]; exact isSome_of (HP.out.done hp))
      have hnx : ∀ ty, (Instr.next (.pointer (some ⟨w.heap.size, 0, none⟩)) true ty).run Tryd.prog wr = _ := fun ty => Lib.run_next_end_at wr w.heap.size (str s) pos ty hit hp
      go_wp2
      go_ret
      rw [HE.out]
      exact ⟨rfl, hb⟩

end Go.Proofs.YtmgofhbdaopapaaDoor

namespace Go.Proofs.YtmgofhbdaopapaaDoor
open Go.RowKit

set_option maxRecDepth 20000 in
set_option maxHeartbeats 1600000 in
theorem prDecode_any (s : List UInt8) (w : World) (hS : Spans w) (hlen : s.length ≤ 10000) :
    Calls Tryd.prog 78 #[.string (str s)] w fun e w' => DecEnd w (decR s) e w' ∧ Below w.heap.size w w' := by
  have hsz : (str s).size = s.length := rfl
  have hE := Lib.hid (encoded_any s w hS)
  cases hr : decR s with
  | none =>
    rw [hr] at hE
    go_enter Tryd.func78, Tryd.ntmps78
    go_wp2_with fail
    refine hE.out.mono ?_
    rintro e w1 ⟨rfl, k1⟩
    simp only [Option.isSome_none]
    go_wp2
    go_ret2
    exact ⟨DecEnd.bad, k1⟩
  | some L =>
    rw [hr] at hE
    have HR := Lib.hid hr
    clear hr
    go_enter Tryd.func78, Tryd.ntmps78
    go_wp2_with fail
    refine hE.out.mono ?_
    rintro e w1 ⟨rfl, k1⟩
    simp only [Option.isSome_some]
    have k1s := k1.size
    go_wp2
    go_loopw [4] (fun v wr => ∃ (pos : Nat) (l : List Nat), wr.heap[w1.heap.size]? = some (.stringIter (str s) pos) ∧ Hid (Past s pos l) ∧ wr.ownsRow (w1.heap.size + 1) 3 1 v l.length (l.map nv) ∧ Below w1.heap.size w1 wr) (fun _ wr => s.length - wr.iterPos w1.heap.size)
    case atStart =>
      exact ⟨0, [], World.iter_heap w1 (str s) 0, Lib.hid (Past.start s), World.ownsRow_nil _ _ _ _, (Below.refl _ _).alloc (Nat.le_refl _) _⟩
    case round =>
      obtain ⟨pos, l, hit, HP, hown, hb⟩ := hrel
      have hks : w1.heap.size < wr.heap.size := (Array.getElem?_eq_some_iff.1 hit).1
      by_cases hp : pos < s.length
      · have hown2 := own_iter hown hit (pos + (Utf8.decode (str s) pos).2)
        obtain ⟨c, n, hcn⟩ : ∃ c n, Utf8.decode (str s) pos = (c, n) := ⟨_, _, rfl⟩
        have hnx : ∀ ty, (Instr.next (.pointer (some ⟨w1.heap.size, 0, none⟩)) true ty).run Tryd.prog wr = _ := fun ty => Lib.run_next_any_at wr w1.heap.size (str s) pos ty hit hp
        have hit2 := Lib.iterAt_heap wr w1.heap.size (str s) pos (pos + (Utf8.decode (str s) pos).2) hit
        have hbw2 := Lib.below_iterAt hb (k := w1.heap.size) (Nat.le_refl _) (str s) (pos + (Utf8.decode (str s) pos).2)
        have hcm := decode_le (str s) pos
        simp only [hcn] at hnx hit2 hbw2 hcm hown2
        have hcz : (c : Int) ≤ 2147483647 := by omega
        have hcz0 : (0 : Int) ≤ (c : Int) := by omega
        have hc : hasR (c : Int) = true := by
          cases hc : hasR (c : Int) with
          | true => rfl
          | false => have h := HP.out.rune_bad hp hcn hc; rw [HR.out] at h; cases h
        obtain ⟨h1, h0⟩ := HP.out.rune hp hcn hc
        have HN := Lib.hid h1
        have hle := h1.1
        have hll := HP.out.2.1
        have hsb : w1.heap.size + 1 ≤ (wr.iterAt w1.heap.size (str s) (pos + n)).heap.size := by rw [Lib.iterAt_size]; omega
        clear hcn h1 hc
        go_wp2_with (at_builtin; refine append_int (wr.iterAt w1.heap.size (str s) (pos + n)) rfl (.tmp 15) (.tmp 18) rfl (w1.heap.size + 1) u4 l rfl hown2 c _ rfl rfl (by omega) hsb ?_; intro r1 w3 hown3 hb3)
        go_roundw
        case rel => exact ⟨pos + n, l ++ [c], (hb3.block _ (by omega)).trans hit2, HN, hown3, hbw2.trans (hb3.mono (by omega))⟩
        case measure =>
          rw [iterPos_at ((hb3.block _ (by omega)).trans hit2), iterPos_at hit]
          omega
      · have HE : Hid (L = l) := Lib.hid (by
          have h := HP.out.done hp
          rw [HR.out] at h
          exact Option.some.inj h)
        have hnx : ∀ ty, (Instr.next (.pointer (some ⟨w1.heap.size, 0, none⟩)) true ty).run Tryd.prog wr = _ := fun ty => Lib.run_next_end_at wr w1.heap.size (str s) pos ty hit hp
        go_wp2
        go_ret2
        rw [HE.out]
        exact ⟨DecEnd.good (own_less (by omega) hown), below_next k1 hb⟩

theorem Past.took {s : List UInt8} {k : Nat} {l L : List Nat} (h : Past s k l) (hr : decR s = some L) : (∃ m, L = l ++ m) ∧ s.take k = encL l := by
  have h1 := h.2.2
  rw [hr] at h1
  cases hm : decR (s.drop k) with
  | none => rw [hm] at h1; cases h1
  | some m =>
    rw [hm] at h1
    have h2 : L = l ++ m := Option.some.inj h1
    refine ⟨⟨m, h2⟩, ?_⟩
    have e1 := (enc_dec hr).1
    have e2 := (enc_dec hm).1
    rw [h2, encL_app, e2] at e1
    have e3 : s.take k ++ s.drop k = s := List.take_append_drop k s
    rw [← e1] at e3
    conv at e3 => rhs; rw [← e1]
    exact (List.append_left_inj _).1 (by rw [e1] at e3; rw [e3])
theorem str_head {P : Program} (T : TypeId) (hT : P.underlying T = some .string) (s : List UInt8) (k : Nat) (h : k ≤ s.length) (W : World) :
    (Instr.sliceAt T (.string (str s)) none (some (.int .i64 (k : Int))) none).run P W = .ok (.string (str (s.take k))) W := by
  rw [run_sliceAt_string W _ _ _ _ _ hT, run_slice_string_h W _ _ hT .i64 (k : Int) (by omega) (by show (k : Int) ≤ (s.length : Int); omega)]
  congr 2
  apply ByteArray.ext
  simp [str]

set_option maxRecDepth 20000 in
set_option maxHeartbeats 1600000 in
theorem prCut_any (s : List UInt8) (n : Int) (w : World) (hS : Spans w) (hn : n ≤ 9223372036854775807) :
    Calls Tryd.prog 18 #[.string (str s), .int .i64 n] w fun e w' => e = .returned (.string (str (cutR s n))) ∧ Below w.heap.size w w' := by
  have hsz : (str s).size = s.length := rfl
  obtain ⟨R, hR⟩ : ∃ R, cutR s n = R := ⟨_, rfl⟩
  rw [hR]
  have HR := Lib.hid hR
  clear hR
  have hE := Lib.hid (encoded_any s w hS)
  by_cases h1 : n < 1
  · have t1 : decide (n < 1) = true := by simpa using h1
    have HE : Hid (R = []) := Lib.hid (by rw [← HR.out, cutR_less h1])
    go_enter Tryd.func18, Tryd.ntmps18
    go_wp2
    go_ret
    rw [HE.out]
    exact ⟨rfl, Below.refl _ _⟩
  have t1 : decide (n < 1) = false := by simpa using h1
  cases hr : decR s with
  | none =>
    rw [hr] at hE
    have HE : Hid (R = []) := Lib.hid (by rw [← HR.out, cutR_none hr])
    clear hr
    go_enter Tryd.func18, Tryd.ntmps18
    go_wp2_with fail
    refine hE.out.mono ?_
    rintro e w1 ⟨rfl, k1⟩
    simp only [Option.isSome_none]
    go_wp2
    go_ret
    rw [HE.out]
    exact ⟨rfl, k1⟩
  | some L =>
    rw [hr] at hE
    have HD := Lib.hid hr
    have HRL : Hid (R = encL (L.take n.toNat)) := Lib.hid (by rw [← HR.out, cutR_some hr h1])
    clear hr
    go_enter Tryd.func18, Tryd.ntmps18
    go_wp2_with fail
    refine hE.out.mono ?_
    rintro e w1 ⟨rfl, k1⟩
    simp only [Option.isSome_some]
    go_wp2
    go_loopw [1] (fun v wr => ∃ (pos : Nat) (l : List Nat) (k : Nat) (m : Int), wr.heap[w1.heap.size]? = some (.stringIter (str s) pos) ∧ Hid (Past s pos l) ∧ Hid (l.length = k) ∧ k ≤ s.length ∧ (k : Int) ≤ n ∧ v = .int .i64 m ∧ m = n - (k : Int) ∧ Below w1.heap.size w1 wr) (fun _ wr => s.length - wr.iterPos w1.heap.size)
    case atStart =>
      exact ⟨0, [], 0, n, World.iter_heap w1 (str s) 0, Lib.hid (Past.start s), Lib.hid rfl, Nat.zero_le _, by omega, rfl, by omega, (Below.refl _ _).alloc (Nat.le_refl _) _⟩
    case round =>
      obtain ⟨pos, l, k, m, hit, HP, HK, hk, hkn, rfl, hm, hb⟩ := hrel
      have hks : w1.heap.size < wr.heap.size := (Array.getElem?_eq_some_iff.1 hit).1
      by_cases hp : pos < s.length
      · obtain ⟨c, n1, hcn⟩ : ∃ c n1, Utf8.decode (str s) pos = (c, n1) := ⟨_, _, rfl⟩
        have hnx : ∀ ty, (Instr.next (.pointer (some ⟨w1.heap.size, 0, none⟩)) true ty).run Tryd.prog wr = _ := fun ty => Lib.run_next_any_at wr w1.heap.size (str s) pos ty hit hp
        have hit2 := Lib.iterAt_heap wr w1.heap.size (str s) pos (pos + (Utf8.decode (str s) pos).2) hit
        have hbw2 := Lib.below_iterAt hb (k := w1.heap.size) (Nat.le_refl _) (str s) (pos + (Utf8.decode (str s) pos).2)
        have hcm := decode_le (str s) pos
        simp only [hcn] at hnx hit2 hbw2 hcm
        have hc : hasR (c : Int) = true := by
          cases hc : hasR (c : Int) with
          | true => rfl
          | false => have h := HP.out.rune_bad hp hcn hc; rw [HD.out] at h; cases h
        obtain ⟨h2, h0⟩ := HP.out.rune hp hcn hc
        obtain ⟨h3, h4⟩ := HP.out.took HD.out
        by_cases hm0 : m = 0
        · have t2 : (m == 0) = true := by simpa using hm0
          have HE : Hid (R = s.take pos) := Lib.hid (by
            obtain ⟨m2, h3⟩ := h3
            rw [HRL.out, h4, h3, List.take_append_of_le_length (by rw [HK.out]; omega), List.take_of_length_le (by rw [HK.out]; omega)])
          have hsl := str_head (P := Tryd.prog) 9 Tryd.underlying9 s pos (by omega)
          clear hcn h2 hc h3 h4
          go_wp2
          go_ret
          rw [HE.out]
          exact ⟨rfl, below_next k1 hbw2⟩
        · have t2 : (m == 0) = false := by simpa using hm0
          have HN := Lib.hid h2
          have hle := h2.1
          have hll := h2.2.1
          rw [List.length_append, List.length_singleton, HK.out] at hll
          have HK2 : Hid ((l ++ [c]).length = k + 1) := Lib.hid (by rw [List.length_append, List.length_singleton, HK.out])
          clear hcn h2 hc h3 h4
          go_wp2
          go_roundw
          case rel => exact ⟨pos + n1, l ++ [c], k + 1, _, hit2, HN, HK2, by omega, by omega, rfl, by omega, hbw2⟩
          case measure =>
            rw [iterPos_at hit2, iterPos_at hit]
            omega
      · have HE : Hid (R = s) := Lib.hid (by
          have h := HP.out.done hp
          rw [HD.out] at h
          have h2 : L = l := Option.some.inj h
          rw [HRL.out, h2, List.take_of_length_le (by rw [HK.out]; omega), ← h2]
          exact (enc_dec HD.out).1)
        have hnx : ∀ ty, (Instr.next (.pointer (some ⟨w1.heap.size, 0, none⟩)) true ty).run Tryd.prog wr = _ := fun ty => Lib.run_next_end_at wr w1.heap.size (str s) pos ty hit hp
        go_wp2
        go_ret
        rw [HE.out]
        exact ⟨rfl, below_next k1 hb⟩

/-- One character more: the script so far. -/
def stp (o c : Nat) : Nat := if o = 0 then (clsR (c : Int)).1 else if (clsR (c : Int)).1 ≠ 0 ∧ (clsR (c : Int)).1 ≠ o then 4 else o
theorem cls3N (c : Int) : (clsN c).1 ≤ 3 := by
  unfold clsN
  repeat' split
  all_goals decide
theorem cls3 (c : Int) : (clsR c).1 ≤ 3 := by
  unfold clsR
  split
  · exact cls3N _
  · exact cls3N _
theorem stp_mixed : ∀ l : List Nat, l.foldl stp 4 = 4
  | [] => rfl
  | c :: l => by
    have h := cls3 (c : Int)
    have e : stp 4 c = 4 := by
      unfold stp
      rw [if_neg (by decide)]
      split <;> rfl
    rw [List.foldl_cons, e]
    exact stp_mixed l
theorem stp_scr : ∀ (l : List Nat) (o : Nat), l.foldl stp o = scrF o l
  | [], o => rfl
  | c :: l, o => by
    rw [List.foldl_cons]
    by_cases h0 : (clsR (c : Int)).1 = 0
    · rw [scr_none h0]
      have e : stp o c = o := by
        unfold stp
        by_cases ho : o = 0
        · rw [if_pos ho, h0, ho]
        · rw [if_neg ho, if_neg (fun h => h.1 h0)]
      rw [e]
      exact stp_scr l o
    · by_cases ho : o = 0
      · rw [scr_next h0 (.inl ho)]
        have e : stp o c = (clsR (c : Int)).1 := by unfold stp; rw [if_pos ho]
        rw [e]
        exact stp_scr l _
      · by_cases h1 : (clsR (c : Int)).1 = o
        · rw [scr_next h0 (.inr h1)]
          have e : stp o c = (clsR (c : Int)).1 := by unfold stp; rw [if_neg ho, if_neg (fun h => h.2 h1), h1]
          rw [e]
          exact stp_scr l _
        · rw [scr_mixed h0 ho h1]
          have e : stp o c = 4 := by unfold stp; rw [if_neg ho, if_pos ⟨h0, h1⟩]
          rw [e]
          exact stp_mixed l
theorem scriptR_some {s : List UInt8} {l : List Nat} (h : decR s = some l) : scriptR s = l.foldl stp 0 := by unfold scriptR; rw [h, stp_scr]
theorem scriptR_none {s : List UInt8} (h : decR s = none) : scriptR s = 0 := by unfold scriptR; rw [h]

end Go.Proofs.YtmgofhbdaopapaaDoor

namespace Go.Proofs.YtmgofhbdaopapaaDoor
open Go.Shelf

def buildRen : Go.Shelf.Ren := ⟨fun | 168 => 53 | 169 => 55 | 240 => 69 | 242 => 70 | 276 => 82 | 278 => 83 | n => n, fun | 0 => 0 | 3 => 3 | 4 => 4 | 5 => 5 | 9 => 9 | 20 => 20 | 21 => 21 | 37 => 74 | 46 => 52 | 51 => 70 | 70 => 73 | 72 => 76 | 75 => 78 | 80 => 83 | 127 => 98 | 164 => 116 | n => n, fun n => n⟩
theorem runeLays : Lays.n168 Tryd.prog buildRen := {
  mixed := by kernel_rfl,
  f168 := Tryd.func53.trans (congrArg some (by kernel_rfl)),
  f240 := Tryd.func69.trans (congrArg some (by kernel_rfl)),
  f242 := Tryd.func70.trans (congrArg some (by kernel_rfl)),
  f276 := Tryd.func82.trans (congrArg some (by kernel_rfl)),
  f278 := Tryd.func83.trans (congrArg some (by kernel_rfl)),
  t0 := Tryd.underlying0,
  a0 := Tryd.isAgg0,
  z0 := Tryd.sizeOf0,
  v0 := Tryd.zeroValue0,
  t3 := Tryd.underlying3,
  a3 := Tryd.isAgg3,
  z3 := Tryd.sizeOf3,
  v3 := Tryd.zeroValue3,
  t4 := Tryd.underlying4,
  a4 := Tryd.isAgg4,
  z4 := Tryd.sizeOf4,
  v4 := Tryd.zeroValue4,
  t5 := Tryd.underlying5,
  a5 := Tryd.isAgg5,
  z5 := Tryd.sizeOf5,
  v5 := Tryd.zeroValue5,
  t9 := Tryd.underlying9,
  a9 := Tryd.isAgg9,
  z9 := Tryd.sizeOf9,
  v9 := Tryd.zeroValue9,
  t20 := Tryd.underlying20,
  a20 := Tryd.isAgg20,
  z20 := Tryd.sizeOf20,
  v20 := Tryd.zeroValue20,
  t21 := Tryd.underlying21,
  a21 := Tryd.isAgg21,
  z21 := Tryd.sizeOf21,
  v21 := Tryd.zeroValue21,
  t37 := Tryd.underlying74,
  a37 := Tryd.isAgg74,
  z37 := Tryd.sizeOf74,
  v37 := Tryd.zeroValue74,
  t46 := Tryd.underlying52,
  a46 := Tryd.isAgg52,
  z46 := Tryd.sizeOf52,
  v46 := Tryd.zeroValue52,
  t51 := Tryd.underlying70,
  a51 := Tryd.isAgg70,
  z51 := Tryd.sizeOf70,
  v51 := Tryd.zeroValue70,
  t70 := Tryd.underlying73,
  a70 := Tryd.isAgg73,
  z70 := Tryd.sizeOf73,
  v70 := Tryd.zeroValue73,
  t72 := Tryd.underlying76,
  a72 := Tryd.isAgg76,
  z72 := Tryd.sizeOf76,
  v72 := Tryd.zeroValue76,
  t75 := Tryd.underlying78,
  a75 := Tryd.isAgg78,
  z75 := Tryd.sizeOf78,
  v75 := Tryd.zeroValue78,
  t164 := Tryd.underlying116,
  a164 := Tryd.isAgg116,
  z164 := Tryd.sizeOf116,
  v164 := Tryd.zeroValue116
}
theorem stringLays : Lays.n169 Tryd.prog buildRen := {
  mixed := by kernel_rfl,
  f169 := Tryd.func55.trans (congrArg some (by kernel_rfl)),
  t0 := Tryd.underlying0,
  a0 := Tryd.isAgg0,
  z0 := Tryd.sizeOf0,
  v0 := Tryd.zeroValue0,
  t3 := Tryd.underlying3,
  a3 := Tryd.isAgg3,
  z3 := Tryd.sizeOf3,
  v3 := Tryd.zeroValue3,
  t9 := Tryd.underlying9,
  a9 := Tryd.isAgg9,
  z9 := Tryd.sizeOf9,
  v9 := Tryd.zeroValue9,
  t37 := Tryd.underlying74,
  a37 := Tryd.isAgg74,
  z37 := Tryd.sizeOf74,
  v37 := Tryd.zeroValue74,
  t70 := Tryd.underlying73,
  a70 := Tryd.isAgg73,
  z70 := Tryd.sizeOf73,
  v70 := Tryd.zeroValue73,
  t72 := Tryd.underlying76,
  a72 := Tryd.isAgg76,
  z72 := Tryd.sizeOf76,
  v72 := Tryd.zeroValue76,
  t127 := Tryd.underlying98,
  a127 := Tryd.isAgg98,
  z127 := Tryd.sizeOf98,
  v127 := Tryd.zeroValue98
}
theorem buildExtra : Builder.Extra Tryd.prog buildRen where
  sizeBuilder := by kernel_rfl
  liesBuilder := by kernel_rfl
  t5 := Tryd.underlying5
  a5 := Tryd.isAgg5
  z5 := Tryd.sizeOf5
  v5 := Tryd.zeroValue5
  infoByte := by kernel_rfl
  cellsByte := by kernel_rfl
  sizeByte := by kernel_rfl
  neB5 := by decide

end Go.Proofs.YtmgofhbdaopapaaDoor
