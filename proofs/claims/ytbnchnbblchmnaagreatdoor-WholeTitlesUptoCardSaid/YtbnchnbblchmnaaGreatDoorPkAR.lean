/-
  The program's place of a character in a string, and the character at a place.
  The program's place: where a character of at most two bytes stands.
  The program's rows of composed letters, and what the search for a place asks of them.
  The program's divide.
  The program's join.
-/
import Derived.Test.YtbnchnbblchmnaaGreatDoorPkAQ
import Derived.Test.YtbnchnbblchmnaaGreatDoorPkAO
import Derived.BigQuiet
import Derived.Deep.RegionWith
namespace Go.Proofs.YtbnchnbblchmnaaGreatDoor
open Go.RowKit

/-- How many bytes stand ahead of character k. -/
def posB (l : List Nat) (k : Nat) : Nat := (encL (l.take k)).length
theorem enc_drop (l : List Nat) (k : Nat) : (encL l).drop (posB l k) = encL (l.drop k) := by
  unfold posB
  have h : encL l = encL (l.take k) ++ encL (l.drop k) := by rw [← encL_app, List.take_append_drop]
  conv => lhs; rw [h]
  rw [List.drop_left]
theorem enc_take (l : List Nat) (k : Nat) : (encL l).take (posB l k) = encL (l.take k) := by
  unfold posB
  have h : encL l = encL (l.take k) ++ encL (l.drop k) := by rw [← encL_app, List.take_append_drop]
  conv => lhs; rw [h]
  rw [List.take_left]
theorem pos_next {l : List Nat} {k x : Nat} (h : l[k]? = some x) : posB l (k + 1) = posB l k + (encC x).length := by
  unfold posB
  rw [take_next h, encL_app, List.length_append]
  congr 1
  rw [show encL [x] = encC x ++ [] from rfl, List.append_nil]
theorem pos_le (l : List Nat) (k : Nat) : posB l k ≤ (encL l).length := by
  have h : encL l = encL (l.take k) ++ encL (l.drop k) := by rw [← encL_app, List.take_append_drop]
  rw [h, List.length_append]
  exact Nat.le_add_right _ _
theorem pos_mono {l : List Nat} {j : Nat} : ∀ {k : Nat}, j < k → k ≤ l.length → posB l j < posB l k
  | 0, h, _ => by omega
  | k + 1, h, hk => by
    obtain ⟨x, hx⟩ := get_some (l := l) (i := k) (by omega)
    have h1 := pos_next hx
    have h2 := (encC_len x).1
    by_cases hj : j = k
    · subst hj; omega
    · have := pos_mono (l := l) (j := j) (k := k) (by omega) (by omega)
      omega
theorem pos_end {l : List Nat} : posB l l.length = (encL l).length := by unfold posB; rw [List.take_length]
theorem pos_lt {l : List Nat} {k : Nat} (h : k < l.length) : posB l k < (encL l).length := by rw [← pos_end]; exact pos_mono h (Nat.le_refl _)
theorem pos_not {l : List Nat} {k : Nat} (h : ¬ k < l.length) : ¬ posB l k < (encL l).length := by
  unfold posB
  rw [List.take_of_length_le (by omega)]
  omega
theorem enc_at {l : List Nat} {k x : Nat} (h : l[k]? = some x) : (encL l).drop (posB l k) = encC x ++ encL (l.drop (k + 1)) := by
  rw [enc_drop]
  obtain ⟨h1, h2⟩ := List.getElem?_eq_some_iff.1 h
  rw [List.drop_eq_getElem_cons h1, h2]
  rfl
theorem runeAt_enc {x : Nat} {t : List UInt8} (hx : okC x) : runeAt (encC x ++ t) = (x, (encC x).length) := by
  have ha := atR_enc (c := x) hx.1 t
  have h0 : encC x ++ t ≠ [] := by
    intro e
    exact encC_ne x (List.append_eq_nil_iff.1 e).1
  have hk : kindR ((runeAt (encC x ++ t)).1 : Int) ≠ 0 := by
    intro e
    rcases rune_bad h0 e with h | h
    · rw [ha] at h
      have := (encC_len x).1
      simp only at h
      omega
    · rw [ha] at h
      exact hx.2 h
  rw [← rune_good h0 hk, ha]
theorem decode_pos {l : List Nat} {k x : Nat} (h : l[k]? = some x) (hx : okC x) : Utf8.decode (str (encL l)) (posB l k) = (x, (encC x).length) := by
  rw [decode_drop, enc_at h, runeAt_enc hx]

set_option maxRecDepth 20000 in
set_option maxHeartbeats 1600000 in
theorem runeCount_any (l : List Nat) (w : World) (hok : ∀ c ∈ l, okC c) (hl : l.length ≤ 1000000) :
    Calls Tryz.prog 166 #[.string (str (encL l))] w fun e w' => e = .returned (.int .i64 (l.length : Int)) ∧ Below w.heap.size w w' := by
  obtain ⟨s, hs⟩ : ∃ s, encL l = s := ⟨_, rfl⟩
  have hsz : (str s).size = s.length := rfl
  have HS := Lib.hid hs
  have HOK := Lib.hid hok
  rw [hs]
  obtain ⟨N, hN⟩ : ∃ N, l.length = N := ⟨_, rfl⟩
  rw [hN] at hl ⊢
  have HN := Lib.hid hN
  clear hs hok hN
  go_enter Tryz.func166, Tryz.ntmps166
  go_wp2
  go_loopw [2] (fun s2 wr => ∃ k pos : Nat, s2 = .int .i64 (k : Int) ∧ k ≤ N ∧ Hid (pos = posB l k) ∧ wr.heap[w.heap.size]? = some (.stringIter (str s) pos) ∧ Below w.heap.size w wr) (fun _ wr => s.length - wr.iterPos w.heap.size)
  case atStart => exact ⟨0, 0, rfl, Nat.zero_le _, Lib.hid rfl, World.iter_heap w (str s) 0, (Below.refl _ _).alloc (Nat.le_refl _) _⟩
  case round =>
    obtain ⟨k, pos, rfl, hk, HP, hit, hb⟩ := hrel
    by_cases hlt : k < N
    · obtain ⟨x, hx⟩ := get_some (l := l) (i := k) (by have := HN.out; omega)
      have hp : pos < s.length := by rw [HP.out, ← HS.out]; exact pos_lt (by have := HN.out; omega)
      have hcn : Utf8.decode (str s) pos = (x, (encC x).length) := by rw [HP.out, ← HS.out]; exact decode_pos hx (HOK.out x (List.mem_of_getElem? hx))
      have hnx : ∀ ty, (Instr.next (.pointer (some ⟨w.heap.size, 0, none⟩)) true ty).run Tryz.prog wr = _ := fun ty => Lib.run_next_any_at wr w.heap.size (str s) pos ty hit hp
      have hit2 := Lib.iterAt_heap wr w.heap.size (str s) pos (pos + (Utf8.decode (str s) pos).2) hit
      have hbw2 := Lib.below_iterAt hb (k := w.heap.size) (Nat.le_refl _) (str s) (pos + (Utf8.decode (str s) pos).2)
      simp only [hcn] at hnx hit2 hbw2
      have HP2 : Hid (pos + (encC x).length = posB l (k + 1)) := Lib.hid (by rw [pos_next hx, HP.out])
      have hl1 := (encC_len x).1
      have hxz : x < 65536 := (HOK.out x (List.mem_of_getElem? hx)).1
      have hcz : (x : Int) ≤ 2147483647 := by omega
      have hcz0 : (0 : Int) ≤ (x : Int) := by omega
      clear hx hcn
      go_wp2
      go_roundw
      case rel => exact ⟨k + 1, _, by go_num, by omega, HP2, hit2, hbw2⟩
      case measure =>
        rw [iterPos_at hit2, iterPos_at hit]
        omega
    · obtain rfl : k = N := by omega
      have hp : ¬ pos < s.length := by rw [HP.out, ← HS.out]; exact pos_not (by have := HN.out; omega)
      have hnx : ∀ ty, (Instr.next (.pointer (some ⟨w.heap.size, 0, none⟩)) true ty).run Tryz.prog wr = _ := fun ty => Lib.run_next_end_at wr w.heap.size (str s) pos ty hit hp
      go_wp2
      go_ret
      exact ⟨rfl, hb⟩

set_option maxRecDepth 20000 in
set_option maxHeartbeats 1600000 in
theorem prAt_any (l : List Nat) (n x : Nat) (w : World) (hok : ∀ c ∈ l, okC c) (hx : l[n]? = some x) (hl : l.length ≤ 1000000) :
    Calls Tryz.prog 161 #[.string (str (encL l)), .int .i64 (n : Int)] w fun e w' => e = .returned (.int .i64 (x : Int)) ∧ Below w.heap.size w w' := by
  obtain ⟨s, hs⟩ : ∃ s, encL l = s := ⟨_, rfl⟩
  have hsz : (str s).size = s.length := rfl
  have HS := Lib.hid hs
  have HOK := Lib.hid hok
  have HX := Lib.hid hx
  have hnl := get_lt hx
  rw [hs]
  obtain ⟨N, hN⟩ : ∃ N, l.length = N := ⟨_, rfl⟩
  rw [hN] at hl hnl
  have HN := Lib.hid hN
  clear hs hok hN hx
  go_enter Tryz.func161, Tryz.ntmps161
  go_wp2
  go_loopw [1, 6] (fun s1 _ wr => ∃ k r pos : Nat, s1 = .int .i64 (r : Int) ∧ Hid (k + r = n) ∧ k ≤ n ∧ Hid (pos = posB l k) ∧ wr.heap[w.heap.size]? = some (.stringIter (str s) pos) ∧ Below w.heap.size w wr) (fun _ _ wr => s.length - wr.iterPos w.heap.size)
  case atStart => exact ⟨0, n, 0, rfl, Lib.hid (by omega), Nat.zero_le _, Lib.hid rfl, World.iter_heap w (str s) 0, (Below.refl _ _).alloc (Nat.le_refl _) _⟩
  case round =>
    obtain ⟨k, r, pos, rfl, HR, hk, HP, hit, hb⟩ := hrel
    obtain ⟨y, hy⟩ := get_some (l := l) (i := k) (by have := HN.out; omega)
    have hp : pos < s.length := by rw [HP.out, ← HS.out]; exact pos_lt (by have := HN.out; omega)
    have hcn : Utf8.decode (str s) pos = (y, (encC y).length) := by rw [HP.out, ← HS.out]; exact decode_pos hy (HOK.out y (List.mem_of_getElem? hy))
    have hnx : ∀ ty, (Instr.next (.pointer (some ⟨w.heap.size, 0, none⟩)) true ty).run Tryz.prog wr = _ := fun ty => Lib.run_next_any_at wr w.heap.size (str s) pos ty hit hp
    have hit2 := Lib.iterAt_heap wr w.heap.size (str s) pos (pos + (Utf8.decode (str s) pos).2) hit
    have hbw2 := Lib.below_iterAt hb (k := w.heap.size) (Nat.le_refl _) (str s) (pos + (Utf8.decode (str s) pos).2)
    simp only [hcn] at hnx hit2 hbw2
    have HP2 : Hid (pos + (encC y).length = posB l (k + 1)) := Lib.hid (by rw [pos_next hy, HP.out])
    have hl1 := (encC_len y).1
    have hyz : y < 65536 := (HOK.out y (List.mem_of_getElem? hy)).1
    have hcz : (y : Int) ≤ 2147483647 := by omega
    have hcz0 : (0 : Int) ≤ (y : Int) := by omega
    by_cases hr0 : r = 0
    · have t1 : ((r : Int) == 0) = true := by rw [hr0]; rfl
      have HE : Hid (y = x) := Lib.hid (by
        have h1 := HR.out
        have h2 := HX.out
        rw [← show k = n by omega, hy] at h2
        exact Option.some.inj h2)
      clear hy hcn hr0
      go_wp2
      go_ret
      exact ⟨ret_int (by rw [HE.out]), hbw2⟩
    · have t1 : ((r : Int) == 0) = false := eqb_false (by omega)
      obtain ⟨r2, hr2⟩ : ∃ r2, r2 = r - 1 := ⟨_, rfl⟩
      have er : (r : Int) - 1 = (r2 : Int) := by omega
      have HR2 : Hid (k + 1 + r2 = n) := Lib.hid (by have := HR.out; omega)
      have hkn : k + 1 ≤ n := by have := HR.out; omega
      have hrb : r2 ≤ 1000000 := by have := HR.out; omega
      clear hy hcn hr2
      go_wp2
      go_roundw
      case rel => exact ⟨k + 1, r2, _, by go_num, HR2, hkn, HP2, hit2, hbw2⟩
      case measure =>
        rw [iterPos_at hit2, iterPos_at hit]
        omega

end Go.Proofs.YtbnchnbblchmnaaGreatDoor

namespace Go.Proofs.YtbnchnbblchmnaaGreatDoor
open Go.RowKit

theorem encC_one {c : Nat} (h : c < 128) : encC c = [UInt8.ofNat c] := by unfold encC; rw [if_pos h]
theorem encC_two {c : Nat} (h1 : 128 ≤ c) (h2 : c < 2048) : encC c = [UInt8.ofNat (192 + c / 64), UInt8.ofNat (128 + c % 64)] := by
  unfold encC
  rw [if_neg (by omega), if_pos h2]
theorem posB_zero (l : List Nat) : posB l 0 = 0 := rfl
theorem posB_cons (c : Nat) (l : List Nat) (k : Nat) : posB (c :: l) (k + 1) = (encC c).length + posB l k := by
  unfold posB
  rw [List.take_succ_cons]
  exact List.length_append
/-- A byte that is neither of a single byte nor one that follows begins a character. -/
theorem byte_lead : ∀ {l : List Nat} {t : Nat} {b : UInt8}, (∀ c ∈ l, c < 2048) → (encL l)[t]? = some b → 192 ≤ b.toNat → ∃ k x, l[k]? = some x ∧ t = posB l k ∧ 128 ≤ x ∧ b = UInt8.ofNat (192 + x / 64)
  | [], t, b, _, h, _ => by simp [encL] at h
  | c :: l, t, b, hl, h, hb => by
    have hc := hl c (List.mem_cons_self ..)
    have hl' : ∀ c ∈ l, c < 2048 := fun x hx => hl x (List.mem_cons_of_mem _ hx)
    by_cases h1 : c < 128
    · rw [show encL (c :: l) = encC c ++ encL l from rfl, encC_one h1] at h
      match t, h with
      | 0, h =>
        simp at h
        subst h
        rw [byte_of (by omega)] at hb
        omega
      | t + 1, h =>
        obtain ⟨k, x, e1, e2, e3, e4⟩ := byte_lead hl' (t := t) (by simpa using h) hb
        exact ⟨k + 1, x, by simpa using e1, by rw [posB_cons, encC_one h1, e2]; simp; omega, e3, e4⟩
    · rw [show encL (c :: l) = encC c ++ encL l from rfl, encC_two (by omega) hc] at h
      match t, h with
      | 0, h =>
        have h := Option.some.inj (show some (UInt8.ofNat (192 + c / 64)) = some b from h)
        exact ⟨0, c, rfl, rfl, by omega, h.symm⟩
      | 1, h =>
        have h := Option.some.inj (show some (UInt8.ofNat (128 + c % 64)) = some b from h)
        subst h
        rw [byte_of (by omega)] at hb
        omega
      | t + 2, h =>
        obtain ⟨k, x, e1, e2, e3, e4⟩ := byte_lead hl' (t := t) (by simpa using h) hb
        exact ⟨k + 1, x, by simpa using e1, by rw [posB_cons, encC_two (by omega) hc, e2]; simp; omega, e3, e4⟩
theorem byte_ascii : ∀ {l : List Nat} {t : Nat} {b : UInt8}, (∀ c ∈ l, c < 2048) → (encL l)[t]? = some b → b.toNat < 128 → ∃ k, l[k]? = some b.toNat ∧ t = posB l k
  | [], t, b, _, h, _ => by simp [encL] at h
  | c :: l, t, b, hl, h, hb => by
    have hc := hl c (List.mem_cons_self ..)
    have hl' : ∀ c ∈ l, c < 2048 := fun x hx => hl x (List.mem_cons_of_mem _ hx)
    by_cases h1 : c < 128
    · rw [show encL (c :: l) = encC c ++ encL l from rfl, encC_one h1] at h
      match t, h with
      | 0, h =>
        simp at h
        subst h
        rw [byte_of (by omega)]
        exact ⟨0, rfl, rfl⟩
      | t + 1, h =>
        obtain ⟨k, e1, e2⟩ := byte_ascii hl' (t := t) (by simpa using h) hb
        exact ⟨k + 1, by simpa using e1, by rw [posB_cons, encC_one h1, e2]; simp; omega⟩
    · rw [show encL (c :: l) = encC c ++ encL l from rfl, encC_two (by omega) hc] at h
      match t, h with
      | 0, h =>
        have h := Option.some.inj (show some (UInt8.ofNat (192 + c / 64)) = some b from h)
        subst h
        rw [byte_of (by omega)] at hb
        omega
      | 1, h =>
        have h := Option.some.inj (show some (UInt8.ofNat (128 + c % 64)) = some b from h)
        subst h
        rw [byte_of (by omega)] at hb
        omega
      | t + 2, h =>
        obtain ⟨k, e1, e2⟩ := byte_ascii hl' (t := t) (by simpa using h) hb
        exact ⟨k + 1, by simpa using e1, by rw [posB_cons, encC_two (by omega) hc, e2]; simp; omega⟩
theorem byte_at {l : List Nat} {k x i : Nat} {b : UInt8} (h : l[k]? = some x) (hb : (encC x)[i]? = some b) : (encL l)[posB l k + i]? = some b := by
  rw [← List.getElem?_drop, enc_at h, List.getElem?_append_left (get_lt' hb)]
  exact hb
theorem two_inj {x c : Nat} (h1 : x < 2048) (h2 : c < 2048) (e1 : UInt8.ofNat (192 + x / 64) = UInt8.ofNat (192 + c / 64)) (e2 : UInt8.ofNat (128 + x % 64) = UInt8.ofNat (128 + c % 64)) : x = c := by
  have a1 := congrArg UInt8.toNat e1
  have a2 := congrArg UInt8.toNat e2
  rw [byte_of (by omega), byte_of (by omega)] at a1 a2
  omega
theorem occ_char {l : List Nat} {c t : Nat} (hl : ∀ c ∈ l, c < 2048) (h2 : c < 2048) (ho : occ2 (encL l) (UInt8.ofNat (192 + c / 64)) (UInt8.ofNat (128 + c % 64)) t) : ∃ k, l[k]? = some c ∧ t = posB l k := by
  obtain ⟨k, x, e1, e2, e3, e4⟩ := byte_lead hl ho.1 (by rw [byte_of (by omega)]; omega)
  have hx := hl x (List.mem_of_getElem? e1)
  have h := byte_at (i := 1) (b := UInt8.ofNat (128 + x % 64)) e1 (by rw [encC_two e3 hx]; rfl)
  rw [← e2, ho.2] at h
  obtain rfl := two_inj hx h2 e4.symm (Option.some.inj h).symm
  exact ⟨k, e1, e2⟩
theorem char_occ {l : List Nat} {c k : Nat} (h1 : 128 ≤ c) (h2 : c < 2048) (h : l[k]? = some c) : occ2 (encL l) (UInt8.ofNat (192 + c / 64)) (UInt8.ofNat (128 + c % 64)) (posB l k) :=
  ⟨byte_at (i := 0) h (by rw [encC_two h1 h2]; rfl), byte_at (i := 1) h (by rw [encC_two h1 h2]; rfl)⟩

/-- Where c stands first in l. -/
def FirstAt (l : List Nat) (c k : Nat) : Prop := l[k]? = some c ∧ ∀ j, j < k → l[j]? ≠ some c
theorem indexRune_any (l : List Nat) (c : Nat) (w : World) (hl : ∀ c ∈ l, c < 2048) (hc : c < 2048) (hlen : (encL l).length ≤ 1000) (hfew : Few (encL l)) :
    Calls Tryz.prog 165 #[.string (str (encL l)), .int .i32 (c : Int)] w fun e w' => (∃ z : Int, e = .returned (.int .i64 z) ∧ ((z = -1 ∧ c ∉ l) ∨ ∃ k : Nat, z = (posB l k : Int) ∧ FirstAt l c k)) ∧ ∃ q, w' = w.drewN q := by
  by_cases h1 : c < 128
  · refine (indexRune_ascii (encL l) c w h1).mono ?_
    rintro e w' ⟨rfl, rfl⟩
    refine ⟨⟨_, rfl, ?_⟩, 0, rfl⟩
    have hge := Lib.indexByte_ge (encL l) (UInt8.ofNat c)
    have hat : ∀ k, l[k]? = some c → (encL l)[posB l k]? = some (UInt8.ofNat c) := fun k hk => byte_at (i := 0) hk (by rw [encC_one h1]; rfl)
    by_cases hm : Lib.indexByte (encL l) (UInt8.ofNat c) = -1
    · refine .inl ⟨hm, fun hmem => ?_⟩
      obtain ⟨k, hk⟩ := List.getElem?_of_mem hmem
      exact Lib.indexByte_none hm _ (hat k hk)
    · obtain ⟨o, ho⟩ : ∃ o : Nat, Lib.indexByte (encL l) (UInt8.ofNat c) = (o : Int) := ⟨(Lib.indexByte (encL l) (UInt8.ofNat c)).toNat, by omega⟩
      obtain ⟨g1, g2⟩ := Lib.indexByte_some ho
      obtain ⟨k, e1, e2⟩ := byte_ascii hl g1 (by rw [byte_of (by omega)]; exact h1)
      rw [byte_of (by omega)] at e1
      refine .inr ⟨k, by rw [ho, e2], e1, fun j hj hjc => ?_⟩
      exact g2 (posB l j) (by rw [e2]; exact pos_mono hj (Nat.le_of_lt (get_lt e1))) (hat j hjc)
  · refine (indexRune_two (encL l) c _ _ w (by omega) hc rfl rfl hlen hfew).mono ?_
    rintro e w' ⟨⟨z, rfl, hz⟩, hw⟩
    refine ⟨⟨z, rfl, ?_⟩, hw⟩
    rcases hz with ⟨hz, hno⟩ | ⟨t, hz, ho, hno⟩
    · refine .inl ⟨hz, fun hmem => ?_⟩
      obtain ⟨k, hk⟩ := List.getElem?_of_mem hmem
      exact hno _ (char_occ (by omega) hc hk)
    · obtain ⟨k, e1, e2⟩ := occ_char hl hc ho
      refine .inr ⟨k, by rw [hz, e2], e1, fun j hj hjc => ?_⟩
      exact hno (posB l j) (by rw [e2]; exact pos_mono hj (Nat.le_of_lt (get_lt e1))) (char_occ (by omega) hc hjc)

set_option maxRecDepth 20000 in
set_option maxHeartbeats 1600000 in
theorem prPlace_any (l : List Nat) (c : Nat) (w : World) (hok : ∀ c ∈ l, okC c) (hl : ∀ c ∈ l, c < 2048) (hc : c < 2048) (hlen : (encL l).length ≤ 1000) (hfew : Few (encL l)) :
    Calls Tryz.prog 160 #[.string (str (encL l)), .int .i64 (c : Int)] w fun e w' => (∃ z : Int, e = .returned (.int .i64 z) ∧ ((z = -1 ∧ c ∉ l) ∨ ∃ k : Nat, z = (k : Int) ∧ FirstAt l c k)) ∧ Below w.heap.size w w' := by
  have HI := Lib.hid (indexRune_any l c w hl hc hlen hfew)
  have HT := Lib.hid (fun k => enc_take l k)
  have HPl := Lib.hid (fun k => pos_le l k)
  have HRC := Lib.hid (fun (k : Nat) W (h : k < l.length) => runeCount_any (l.take k) W (fun x hx => hok x (List.mem_of_mem_take hx)) (by
    have h1 : (encL l).length ≤ 1000 := hlen
    have h2 : posB l l.length = (encL l).length := pos_end
    have h3 : ∀ n, n ≤ l.length → n ≤ posB l n := by
      intro n
      induction n with
      | zero => intro _; exact Nat.zero_le _
      | succ n ih => intro hn; have := pos_mono (l := l) (j := n) (k := n + 1) (by omega) hn; have := ih (by omega); omega
    have h4 := h3 l.length (Nat.le_refl _)
    rw [List.length_take]
    omega))
  obtain ⟨s, hs⟩ : ∃ s, encL l = s := ⟨_, rfl⟩
  rw [hs] at HI HT HPl ⊢
  have hsz : (str s).size = s.length := rfl
  clear hs hok hl hlen hfew
  go_enter Tryz.func160, Tryz.ntmps160
  go_wp2_with fail
  refine HI.out.mono ?_
  rintro e w1 ⟨⟨z, rfl, hz⟩, q, rfl⟩
  rcases hz with ⟨rfl, hno⟩ | ⟨k, rfl, hf⟩
  · have HN := Lib.hid hno
    clear hno
    go_wp2
    go_ret
    exact ⟨⟨-1, rfl, .inl ⟨rfl, HN.out⟩⟩, below_drewN (Below.refl _ _) _⟩
  · have HF := Lib.hid hf
    have hkl := get_lt hf.1
    obtain ⟨p, hp⟩ : ∃ p, posB l k = p := ⟨_, rfl⟩
    have hps : p ≤ s.length := by rw [← hp]; exact HPl.out k
    have HS : Hid (s.take p = encL (l.take k)) := Lib.hid (by rw [← hp]; exact HT.out k)
    have HSl : Hid (∀ W, (Instr.sliceAt 9 (.string (str s)) none (some (.int .i64 (p : Int))) none).run Tryz.prog W = .ok (.string (str (s.take p))) W) := Lib.hid fun W => str_head _ Tryz.underlying9 s p hps W
    have hsl := HSl.out
    rw [HS.out] at hsl
    have HC := Lib.hid (fun W => HRC.out k W hkl)
    have hll : (l.take k).length = k := by rw [List.length_take]; omega
    rw [hll] at HC
    rw [hp]
    obtain ⟨r, hr⟩ : ∃ r, str (encL (l.take k)) = r := ⟨_, rfl⟩
    rw [hr] at hsl HC
    clear hp hf hkl hll hr
    go_wp2_with fail
    refine (HC.out _).mono ?_
    rintro e w2 ⟨rfl, k2⟩
    go_wp2
    go_ret
    exact ⟨⟨(k : Int), rfl, .inr ⟨k, rfl, HF.out⟩⟩, below_next (below_drewN (Below.refl _ _) _) k2⟩

end Go.Proofs.YtbnchnbblchmnaaGreatDoor

namespace Go.Proofs.YtbnchnbblchmnaaGreatDoor
open Go.RowKit

def zrows : Array Value := ((List.replicate 13 [Value.int .i64 0, .string ⟨#[]⟩, .string ⟨#[]⟩]).flatten).toArray
theorem zero_rows (w : World) : (zeroValue 191).run Tryz.prog w = .ok (.agg zrows) w := by kernel_rfl
theorem zrows_size : zrows.size = 39 := by kernel_rfl
theorem rowCells_size : rowCells.size = 39 := by kernel_rfl
theorem rowCells_one : rowCells.all (·.oneCell') = true := by kernel_rfl
theorem size_rows : (Tryz.prog.info? 191).map (·.size) = some 39 := by kernel_rfl
set_option maxRecDepth 100000 in
set_option maxHeartbeats 3200000 in
theorem prRows_any (w : World) :
    Calls Tryz.prog 159 #[] w fun e w' => e = .returned (.agg rowCells) ∧ Below w.heap.size w w' := by
  have hz := zero_rows
  have hb0 : Box (w.alloc (.cells zrows 191)) w.heap.size 191 zrows := Box.made _ _ _
  go_enter Tryz.func159, Tryz.ntmps159
  go_wp2_with (refine wpList_store_row rfl 191 (.tmp 0) (.tmp 14) rfl w.heap.size rowCells rfl (by kernel_rfl) 191 zrows hb0 (by rw [rowCells_size]; exact size_rows) (by rw [zrows_size, rowCells_size]) rowCells_one ?_)
  exact bodyPost_ret (results_cell_row rfl _ _ w.heap.size 191 rowCells (0, 0) _ rfl (hb0.row rowCells) Tryz.underlying191 rfl (by rw [rowCells_size]; exact size_rows)) rfl ⟨rfl, below_row (below_new (Below.refl _ _) _) (Nat.le_refl _) _⟩

/-- A row as a value. -/
def rowTri (i : Nat) : Array Value := #[.int .i64 ((rowAt i).1 : Int), .string (str (encL (rowAt i).2.1)), .string (str (encL (rowAt i).2.2))]
theorem row_index_0 (w : World) : (Instr.index 191 (.agg rowCells) (.int .i64 ((0 : Nat) : Int))).run Tryz.prog w = .ok (.agg (rowTri 0)) w := by kernel_rfl
theorem row_index_1 (w : World) : (Instr.index 191 (.agg rowCells) (.int .i64 ((1 : Nat) : Int))).run Tryz.prog w = .ok (.agg (rowTri 1)) w := by kernel_rfl
theorem row_index_2 (w : World) : (Instr.index 191 (.agg rowCells) (.int .i64 ((2 : Nat) : Int))).run Tryz.prog w = .ok (.agg (rowTri 2)) w := by kernel_rfl
theorem row_index_3 (w : World) : (Instr.index 191 (.agg rowCells) (.int .i64 ((3 : Nat) : Int))).run Tryz.prog w = .ok (.agg (rowTri 3)) w := by kernel_rfl
theorem row_index_4 (w : World) : (Instr.index 191 (.agg rowCells) (.int .i64 ((4 : Nat) : Int))).run Tryz.prog w = .ok (.agg (rowTri 4)) w := by kernel_rfl
theorem row_index_5 (w : World) : (Instr.index 191 (.agg rowCells) (.int .i64 ((5 : Nat) : Int))).run Tryz.prog w = .ok (.agg (rowTri 5)) w := by kernel_rfl
theorem row_index_6 (w : World) : (Instr.index 191 (.agg rowCells) (.int .i64 ((6 : Nat) : Int))).run Tryz.prog w = .ok (.agg (rowTri 6)) w := by kernel_rfl
theorem row_index_7 (w : World) : (Instr.index 191 (.agg rowCells) (.int .i64 ((7 : Nat) : Int))).run Tryz.prog w = .ok (.agg (rowTri 7)) w := by kernel_rfl
theorem row_index_8 (w : World) : (Instr.index 191 (.agg rowCells) (.int .i64 ((8 : Nat) : Int))).run Tryz.prog w = .ok (.agg (rowTri 8)) w := by kernel_rfl
theorem row_index_9 (w : World) : (Instr.index 191 (.agg rowCells) (.int .i64 ((9 : Nat) : Int))).run Tryz.prog w = .ok (.agg (rowTri 9)) w := by kernel_rfl
theorem row_index_10 (w : World) : (Instr.index 191 (.agg rowCells) (.int .i64 ((10 : Nat) : Int))).run Tryz.prog w = .ok (.agg (rowTri 10)) w := by kernel_rfl
theorem row_index_11 (w : World) : (Instr.index 191 (.agg rowCells) (.int .i64 ((11 : Nat) : Int))).run Tryz.prog w = .ok (.agg (rowTri 11)) w := by kernel_rfl
theorem row_index_12 (w : World) : (Instr.index 191 (.agg rowCells) (.int .i64 ((12 : Nat) : Int))).run Tryz.prog w = .ok (.agg (rowTri 12)) w := by kernel_rfl
theorem row_index (i : Nat) (hi : i < 13) (w : World) : (Instr.index 191 (.agg rowCells) (.int .i64 (i : Int))).run Tryz.prog w = .ok (.agg (rowTri i)) w := by
  have h : i = 0 ∨ i = 1 ∨ i = 2 ∨ i = 3 ∨ i = 4 ∨ i = 5 ∨ i = 6 ∨ i = 7 ∨ i = 8 ∨ i = 9 ∨ i = 10 ∨ i = 11 ∨ i = 12 := by omega
  clear hi
  rcases h with rfl | rfl | rfl | rfl | rfl | rfl | rfl | rfl | rfl | rfl | rfl | rfl | rfl
  · exact row_index_0 w
  · exact row_index_1 w
  · exact row_index_2 w
  · exact row_index_3 w
  · exact row_index_4 w
  · exact row_index_5 w
  · exact row_index_6 w
  · exact row_index_7 w
  · exact row_index_8 w
  · exact row_index_9 w
  · exact row_index_10 w
  · exact row_index_11 w
  · exact row_index_12 w

/-! No byte stands too often. -/
def cntN (x : Nat) : List Nat → Nat
  | [] => 0
  | y :: l => if Nat.beq y x = true then cntN x l + 1 else cntN x l
def fewF : List Nat → List Nat → Nat → Bool
  | _, [], _ => true
  | pre, x :: r, i => (Nat.blt x 128 || Nat.ble 192 x || Nat.ble (cntN x (x :: pre)) ((i + 17) / 8)) && fewF (x :: pre) r (i + 1)
theorem cnt_eq (b : UInt8) : ∀ l : List UInt8, cntN b.toNat (l.map UInt8.toNat) = l.count b
  | [] => rfl
  | c :: l => by
    rw [List.map_cons, cntN, List.count_cons, cnt_eq b l]
    by_cases h : c = b
    · subst h
      rw [if_pos (by rw [Nat.beq_eq])]
      simp
    · rw [if_neg (by rw [Nat.beq_eq]; exact fun e => h (UInt8.toNat_inj.1 e))]
      simp [h]
theorem few_from : ∀ (rest pre : List UInt8), fewF (pre.map UInt8.toNat) (rest.map UInt8.toNat) pre.length = true → ∀ j b, 128 ≤ b.toNat → b.toNat < 192 → rest[j]? = some b → pre.count b + (rest.take (j + 1)).count b ≤ (pre.length + j + 17) / 8
  | [], _, _, j, b, _, _, h => by simp at h
  | c :: rest, pre, hf, j, b, hb1, hb2, h => by
    rw [List.map_cons, fewF, Bool.and_eq_true, Bool.or_eq_true, Bool.or_eq_true, Nat.ble_eq, Nat.ble_eq, Nat.blt_eq] at hf
    obtain ⟨h1, h2⟩ := hf
    cases j with
    | zero =>
      simp at h
      subst h
      have e := cnt_eq c (c :: pre)
      rw [List.map_cons] at e
      rcases h1 with h1 | h1
      · omega
      · rw [e, List.count_cons] at h1
        simp at h1 ⊢
        omega
    | succ j =>
      have ih := few_from rest (c :: pre) (by rw [List.map_cons, List.length_cons]; exact h2) j b hb1 hb2 (by simpa using h)
      rw [List.take_succ_cons, List.count_cons]
      rw [List.count_cons, List.length_cons] at ih
      have e : (pre.length + 1 + j + 17) = (pre.length + (j + 1) + 17) := by omega
      rw [e] at ih
      omega
theorem few_of {s : List UInt8} (h : fewF [] (s.map UInt8.toNat) 0 = true) : Few s := by
  intro i b h1 h2 hb
  have := few_from s [] h i b h1 h2 hb
  simpa using this
def encN : List Nat → List Nat
  | [] => []
  | c :: l => if Nat.blt c 128 = true then c :: encN l else (192 + c / 64) :: (128 + c % 64) :: encN l
theorem encN_eq : ∀ l : List Nat, (∀ c ∈ l, c < 2048) → (encL l).map UInt8.toNat = encN l
  | [], _ => rfl
  | c :: l, h => by
    have hc := h c (List.mem_cons_self ..)
    have ih := encN_eq l fun x hx => h x (List.mem_cons_of_mem _ hx)
    rw [show encL (c :: l) = encC c ++ encL l from rfl, List.map_append, ih, encN]
    by_cases h1 : c < 128
    · rw [if_pos (by rw [Nat.blt_eq]; exact h1), encC_one h1]
      simp
      omega
    · rw [if_neg (by rw [Nat.blt_eq]; exact h1), encC_two (by omega) hc, List.map_cons, List.map_cons, byte_of (by omega), byte_of (by omega)]
      rfl
def smallB (l : List Nat) : Bool := (l.all fun c => Nat.blt c 2048) && fewF [] (encN l) 0
theorem rows_small : (rowL.all fun r => smallB r.2.1 && smallB r.2.2) = true := by kernel_rfl
theorem small_of {l : List Nat} (h : smallB l = true) : (∀ c ∈ l, c < 2048) ∧ Few (encL l) := by
  unfold smallB at h
  rw [Bool.and_eq_true, List.all_eq_true] at h
  have h1 : ∀ c ∈ l, c < 2048 := fun c hc => by have := h.1 c hc; rwa [Nat.blt_eq] at this
  exact ⟨h1, few_of (by rw [encN_eq l h1]; exact h.2)⟩
theorem row_small {i : Nat} (hi : i < 13) : ((∀ c ∈ (rowAt i).2.1, c < 2048) ∧ Few (encL (rowAt i).2.1)) ∧ ((∀ c ∈ (rowAt i).2.2, c < 2048) ∧ Few (encL (rowAt i).2.2)) := by
  have h := List.all_eq_true.1 rows_small (rowAt i) (List.mem_of_getElem? (rowL_get hi))
  rw [Bool.and_eq_true] at h
  exact ⟨small_of h.1, small_of h.2⟩

/-! Searches in a row. -/
theorem zrow_none {mk c : Nat} {ls bs : List Nat} (h : c ∉ ls) : (zrow (mk, ls, bs)).find? (fun x => Nat.beq x.1 c) = none := by
  rw [List.find?_eq_none]
  intro x hx
  unfold zrow at hx
  obtain ⟨p, hp, rfl⟩ := List.mem_map.1 hx
  have hm := (List.of_mem_zip hp).1
  simp only
  rw [Nat.beq_eq]
  intro e
  rw [e] at hm
  exact h hm
theorem zrow_none2 {mk b m : Nat} {ls bs : List Nat} (h : b ∉ bs) : (zrow (mk, ls, bs)).find? (fun x => Nat.beq x.2.1 b && Nat.beq x.2.2 m) = none := by
  rw [List.find?_eq_none]
  intro x hx
  unfold zrow at hx
  obtain ⟨p, hp, rfl⟩ := List.mem_map.1 hx
  have hm := (List.of_mem_zip hp).2
  simp only
  rw [Bool.and_eq_true, Nat.beq_eq]
  rintro ⟨e, _⟩
  rw [e] at hm
  exact h hm
theorem zrow_take {mk k : Nat} {ls bs : List Nat} {x : Nat × Nat × Nat} (hx : x ∈ (zrow (mk, ls, bs)).take k) : ∃ j, j < k ∧ ls[j]? = some x.1 ∧ bs[j]? = some x.2.1 ∧ x.2.2 = mk := by
  obtain ⟨j, hj⟩ := List.getElem?_of_mem hx
  rw [List.getElem?_take] at hj
  split at hj
  · rename_i hjk
    unfold zrow at hj
    rw [List.getElem?_map] at hj
    cases hz : (ls.zip bs)[j]? with
    | none => simp only at hj; rw [hz] at hj; simp at hj
    | some p =>
      simp only at hj
      rw [hz] at hj
      have e := Option.some.inj hj
      obtain ⟨g1, g2⟩ := List.getElem?_zip_eq_some.1 hz
      subst e
      exact ⟨j, hjk, g1, g2, rfl⟩
  · cases hj
theorem zrow_first {mk c k y : Nat} {ls bs : List Nat} (h : FirstAt ls c k) (hy : bs[k]? = some y) : (zrow (mk, ls, bs)).find? (fun x => Nat.beq x.1 c) = some (c, y, mk) := by
  refine (find_take _ (zrow (mk, ls, bs)) k (c, y, mk) (zrow_get h.1 hy) ?_).1 (beq_true c)
  rw [List.find?_eq_none]
  intro x hx
  obtain ⟨j, hj, e1, _, _⟩ := zrow_take hx
  rw [Nat.beq_eq]
  intro e
  exact h.2 j hj (by rw [e1, e])
theorem zrow_first2 {b k y m : Nat} {ls bs : List Nat} (h : FirstAt bs b k) (hy : ls[k]? = some y) : (zrow (m, ls, bs)).find? (fun x => Nat.beq x.2.1 b && Nat.beq x.2.2 m) = some (y, b, m) := by
  refine (find_take _ (zrow (m, ls, bs)) k (y, b, m) (zrow_get hy h.1) ?_).1 (by simp only; rw [beq_true, beq_true]; rfl)
  rw [List.find?_eq_none]
  intro x hx
  obtain ⟨j, hj, _, e1, _⟩ := zrow_take hx
  rw [Bool.and_eq_true, Nat.beq_eq]
  rintro ⟨e, _⟩
  exact h.2 j hj (by rw [e1, e])

end Go.Proofs.YtbnchnbblchmnaaGreatDoor

namespace Go.Proofs.YtbnchnbblchmnaaGreatDoor
open Go.RowKit

set_option maxRecDepth 100000 in
set_option maxHeartbeats 6400000 in
theorem prDivide_any (c : Nat) (w : World) (hc : c < 2048) :
    Calls Tryz.prog 141 #[.int .i64 (c : Int)] w fun e w' => e = .returned (.tuple #[.int .i64 ((pairR c).1 : Int), .int .i64 ((pairR c).2 : Int), .bool (pairL.any fun x => Nat.beq x.1 c)]) ∧ Below w.heap.size w w' := by
  obtain ⟨R, hR⟩ : ∃ R, pairR c = R := ⟨_, rfl⟩
  obtain ⟨B, hB⟩ : ∃ B, (pairL.any fun x => Nat.beq x.1 c) = B := ⟨_, rfl⟩
  rw [hR, hB]
  have HR := Lib.hid hR
  have HB := Lib.hid hB
  clear hR hB
  have HRo := Lib.hid (prRows_any w)
  go_enter Tryz.func141, Tryz.ntmps141
  go_wp2_with fail
  refine HRo.out.mono ?_
  rintro e w1 ⟨rfl, hk1⟩
  go_wp2
  go_loopw [6, 7, 9] (fun _ _ s wr => ∃ i : Nat, i ≤ 13 ∧ s = .int .i64 (i : Int) ∧ Hid (((rowL.take i).flatMap zrow).find? (fun x => Nat.beq x.1 c) = none) ∧ Below w.heap.size w wr) (fun _ _ s _ => 13 - (intOf s).toNat)
  case atStart => exact ⟨0, by omega, rfl, Lib.hid rfl, hk1⟩
  case round =>
    obtain ⟨i, hi, rfl, HF, hb⟩ := hrel
    by_cases hlt : i < 13
    · have t1 : decide ((i : Int) < 13) = true := by simp; omega
      have iz : (i : Int) < 13 := by omega
      obtain ⟨hok1, hok2, hl12, hl100⟩ := row_facts hlt
      obtain ⟨⟨hs1, hf1⟩, hs2, _⟩ := row_small hlt
      have hix := row_index i hlt
      unfold rowTri at hix
      have HNext := Lib.hid (rows_next hlt)
      have HSplit := Lib.hid (fun (p : Nat × Nat × Nat → Bool) (x : Nat × Nat × Nat) h h2 => find_split (p := p) hlt h (x := x) h2)
      obtain ⟨r, hr⟩ : ∃ r, rowAt i = r := ⟨_, rfl⟩
      rw [hr] at hok1 hok2 hl12 hl100 hs1 hf1 hs2 hix HNext HSplit
      clear hr
      obtain ⟨mk, ls, bs⟩ := r
      simp only at hok1 hok2 hl12 hl100 hs1 hf1 hs2 hix
      have HPl := Lib.hid fun W => prPlace_any ls c W hok1 hs1 hc (by have := enc_short hl100; omega) hf1
      have HAt := Lib.hid fun (k x : Nat) W (h : bs[k]? = some x) => prAt_any bs k x W hok2 h (by omega)
      have HL := Lib.hid hl12
      obtain ⟨S1, hS1⟩ : ∃ S, str (encL ls) = S := ⟨_, rfl⟩
      obtain ⟨S2, hS2⟩ : ∃ S, str (encL bs) = S := ⟨_, rfl⟩
      rw [hS1] at HPl hix
      rw [hS2] at HAt hix
      clear hok1 hok2 hl12 hl100 hs1 hf1 hs2 hS1 hS2
      go_wp2_with fail
      refine (HPl.out _).mono ?_
      rintro e w2 ⟨⟨z, rfl, hz⟩, k2⟩
      have hbx := (Box.made wr 190 #[.int .i64 (mk : Int), .string S1, .string S2]).below k2 (by simp)
      have hbw2 : Below w.heap.size w w2 := below_next (below_new hb _) k2
      have c0 : w2.cell? ⟨wr.heap.size, 0, none⟩ = some (.int .i64 (mk : Int)) := hbx.cell 0
      have c2 : w2.cell? ⟨wr.heap.size, 2, none⟩ = some (.string S2) := hbx.cell 2
      have hlt2 : wr.heap.size < w2.heap.size := hbx.lt
      rcases hz with ⟨rfl, hno⟩ | ⟨k, rfl, hf⟩
      · have HF2 : Hid (((rowL.take (i + 1)).flatMap zrow).find? (fun x => Nat.beq x.1 c) = none) := Lib.hid (by
          rw [HNext.out, List.find?_append, HF.out, zrow_none hno]
          rfl)
        clear hno k2
        go_wp2
        go_roundw
        case rel => exact ⟨i + 1, by omega, by go_num, HF2, hbw2⟩
        case measure => simp [intOf]; omega
      · obtain ⟨y, hy⟩ := get_some (l := bs) (i := k) (by have := get_lt hf.1; have := HL.out; omega)
        have hsp := HSplit.out _ _ HF.out (zrow_first hf hy)
        have HE1 : Hid (R = (y, mk)) := Lib.hid (by rw [← HR.out, pairR_some hsp])
        have HE2 : Hid (B = true) := Lib.hid (by
          rw [← HB.out, List.any_eq_true]
          exact ⟨_, List.mem_of_find?_eq_some hsp, beq_true c⟩)
        have t2 : decide ((0 : Int) ≤ (k : Int)) = true := by simp
        have HA := Lib.hid (fun W => HAt.out k y W hy)
        clear hf hy hsp k2
        go_wp2_with fail
        go_region_with (first | (go_at_call 161; refine (HA.out _).mono ?_; rintro e w3 ⟨rfl, k3⟩; have k4 : Below w2.heap.size w2 w3 := ((Below.refl w2.heap.size w2).drew).trans k3; have hbw3 := below_next hbw2 k4; have c0' := (k4.cell (p := ⟨wr.heap.size, 0, none⟩) hlt2).trans c0))
        all_goals
          go_wp2
          go_ret3
          rw [HE1.out, HE2.out]
          exact ⟨rfl, by first | exact hbw3 | exact below_drewN hbw3 _⟩
    · obtain rfl : i = 13 := by omega
      have hn := HF.out
      rw [rows_all] at hn
      have HE1 : Hid (R = (0, 0)) := Lib.hid (by rw [← HR.out, pairR_none hn])
      have HE2 : Hid (B = false) := Lib.hid (by
        rw [← HB.out, List.any_eq_false]
        exact List.find?_eq_none.1 hn)
      clear hn
      go_wp2
      go_ret3
      rw [HE1.out, HE2.out]
      exact ⟨rfl, hb⟩

end Go.Proofs.YtbnchnbblchmnaaGreatDoor

namespace Go.Proofs.YtbnchnbblchmnaaGreatDoor
open Go.RowKit

end Go.Proofs.YtbnchnbblchmnaaGreatDoor
