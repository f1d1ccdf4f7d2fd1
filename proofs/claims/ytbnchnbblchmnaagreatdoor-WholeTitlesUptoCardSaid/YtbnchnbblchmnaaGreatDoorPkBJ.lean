/-
  The program's isArticle, divideAtSpace.
  The program's divideAtSpace, divide.
  The program's Skip, Strip, Invert, Sort.
-/
import Derived.Test.YtbnchnbblchmnaaGreatDoorPkBI
import Derived.Test.YtbnchnbblchmnaaGreatDoorPkAN
import Derived.BigQuiet
namespace Go.Proofs.YtbnchnbblchmnaaGreatDoor
open Go.RowKit

theorem nFold_len9 (s : List UInt8) : (nFold s).length ≤ 12 * s.length := by
  have h1 := nFL_len s
  have h2 := encL_len (nFL s)
  unfold nFold
  omega


set_option maxRecDepth 20000 in
set_option maxHeartbeats 3200000 in
theorem idxS_any (A : Option Addr) (n c : Nat) (l : List (List UInt8)) (x : List UInt8) (w : World) (h : Arr sv w w.heap.size (.slice A n c) l) (hn : n ≤ 1000000) :
    Calls Tryz.prog 156 #[.slice A n c, .string (str x)] w fun e w' => (∃ z : Int, e = .returned (.int .i64 z) ∧ decide (0 ≤ z) = decide (x ∈ l)) ∧ Below w.heap.size w w' := by
  have HL := Lib.hid h.len
  go_enter Tryz.func156, Tryz.ntmps156
  go_wp2
  go_loopw [8] (fun i wr => ∃ k : Nat, k ≤ n ∧ i = .int .i64 (k : Int) ∧ Hid (x ∉ l.take k) ∧ Below w.heap.size w wr) (fun i _ => n - (intOf i).toNat)
  case atStart => exact ⟨0, by omega, rfl, Lib.hid (by simp), Below.refl _ _⟩
  case round =>
    obtain ⟨k, hk, rfl, HN, hb⟩ := hrel
    by_cases hlt : k < n
    · have i1 : decide ((k : Int) < (n : Int)) = true := decide_eq_true (by omega)
      have i1n : decide (k < n) = true := decide_eq_true hlt
      have kz : (k : Int) < (n : Int) := by omega
      obtain ⟨b0, o0, rfl, hB0, hc0⟩ := h.some_ (by omega)
      obtain ⟨y, hy⟩ : ∃ a, l[k]? = some a := ⟨_, List.getElem?_eq_getElem (by have := HL.out; omega)⟩
      have d0 : wr.cell? ⟨b0, o0 + k, none⟩ = some (.string (str y)) := (hb.cell (p := ⟨b0, o0 + k, none⟩) hB0).trans (hc0 k y hy)
      have hq := strs_beq x y
      have HT := Lib.hid (take_next hy)
      have HM := Lib.hid (List.mem_of_getElem? hy)
      clear hc0 hy
      by_cases hxy : x = y
      · have q1 : ((str x).toList == (str y).toList) = true := hq.trans (decide_eq_true hxy)
        have HE : Hid (decide (0 ≤ (k : Int)) = decide (x ∈ l)) := Lib.hid (by rw [decide_eq_true (show (0 : Int) ≤ (k : Int) by omega), decide_eq_true (hxy ▸ HM.out)])
        clear hq hxy
        go_wp2
        go_ret
        exact ⟨⟨_, rfl, HE.out⟩, hb⟩
      · have q1 : ((str x).toList == (str y).toList) = false := hq.trans (decide_eq_false hxy)
        have HN2 : Hid (x ∉ l.take (k + 1)) := Lib.hid (by
          rw [HT.out]
          intro hm
          rcases List.mem_append.1 hm with hm | hm
          · exact HN.out hm
          · exact hxy (List.mem_singleton.1 hm))
        clear hq hxy
        go_wp2
        go_roundw
        case rel => exact ⟨k + 1, by omega, by go_num, HN2, hb⟩
        case measure => simp [intOf]; omega
    · obtain rfl : k = n := by omega
      have i1 : decide ((k : Int) < (k : Int)) = false := by simp
      have i1n : decide (k < k) = false := by simp
      have HE : Hid (decide (0 ≤ (-1 : Int)) = decide (x ∈ l)) := Lib.hid (by
        have h1 := HN.out
        rw [List.take_of_length_le (by rw [HL.out]; exact Nat.le_refl _)] at h1
        rw [decide_eq_false h1]
        rfl)
      go_wp2
      go_ret
      exact ⟨⟨_, rfl, HE.out⟩, hb⟩

set_option maxRecDepth 20000 in
set_option maxHeartbeats 3200000 in
theorem hasS_any (A : Option Addr) (n c : Nat) (l : List (List UInt8)) (x : List UInt8) (w : World) (h : Arr sv w w.heap.size (.slice A n c) l) (hn : n ≤ 1000000) :
    Calls Tryz.prog 138 #[.slice A n c, .string (str x)] w fun e w' => e = .returned (.bool (decide (x ∈ l))) ∧ Below w.heap.size w w' := by
  have H := Lib.hid (idxS_any A n c l x w h hn)
  obtain ⟨r, hr⟩ : ∃ r, decide (x ∈ l) = r := ⟨_, rfl⟩
  rw [hr] at H ⊢
  clear hr h
  go_enter Tryz.func138, Tryz.ntmps138
  go_wp2_with fail
  refine H.out.mono ?_
  rintro e w1 ⟨⟨z, rfl, hz⟩, k1⟩
  subst hz
  go_wp2
  go_ret
  exact ⟨rfl, k1⟩

theorem hasSuf9_any (a : List UInt8) (w : World) (ha : a.length ≤ 1000000) :
    Calls Tryz.prog 137 #[.string (str a), .string ⟨#[39]⟩] w fun e w' => e = .returned (.bool (apoB a)) ∧ Below w.heap.size w w' := by
  have h1 := Go.Proofs.Any.strings_HasSuffix hasSufLays (str a) ⟨#[39]⟩ w (by rw [str_size]; omega)
  have e1 : (str a).data.toList = a := by simp [str]
  rw [e1, show (⟨#[39]⟩ : ByteArray).data.toList = [39] from rfl, suffix_apo] at h1
  refine Calls.mono (show Calls Tryz.prog 137 #[.string (str a), .string ⟨#[39]⟩] w _ from h1) ?_
  rintro e w' ⟨rfl, rfl⟩
  exact ⟨rfl, Below.refl _ _⟩

set_option maxRecDepth 20000 in
set_option maxHeartbeats 3200000 in
theorem prIsArt_any (A : Option Addr) (n c : Nat) (l : List (List UInt8)) (x : List UInt8) (el : Bool) (w : World) (hS : Ready9 w) (h : Arr sv w w.heap.size (.slice A n c) l) (hn : n ≤ 1000000) (hx : x.length ≤ 5000) :
    Calls Tryz.prog 103 #[.slice A n c, .string (str x), .bool el] w fun e w' => e = .returned (.bool ((apoB (nFold x) == el) && decide (nFold x ∈ l))) ∧ Below w.heap.size w w' := by
  have HF := Lib.hid (prFold_s x w hS hx)
  have hfl := nFold_len9 x
  have HSu := Lib.hid (fun W => hasSuf9_any (nFold x) W (by omega))
  have HC := Lib.hid (fun W (hW : Below w.heap.size w W) => hasS_any A n c l (nFold x) W (h.up hW) hn)
  obtain ⟨F, hF⟩ : ∃ F, nFold x = F := ⟨_, rfl⟩
  rw [hF] at HF HSu HC ⊢
  obtain ⟨a, ha⟩ : ∃ a, apoB F = a := ⟨_, rfl⟩
  rw [ha] at HSu ⊢
  obtain ⟨m, hm⟩ : ∃ m, decide (F ∈ l) = m := ⟨_, rfl⟩
  rw [hm] at HC ⊢
  clear hF ha hm hfl hS h
  go_enter Tryz.func103, Tryz.ntmps103
  go_wp2_with fail
  refine HF.out.mono ?_
  rintro e w1 ⟨rfl, k1⟩
  go_wp2_with fail
  refine (HSu.out _).mono ?_
  rintro e w2 ⟨rfl, k2⟩
  have b2 := below_next k1 k2
  cases a <;> cases el
  · go_wp2_with fail
    refine (HC.out _ b2).mono ?_
    rintro e w3 ⟨rfl, k3⟩
    go_wp2
    go_ret
    exact ⟨rfl, below_next b2 k3⟩
  · go_wp2
    go_ret
    exact ⟨rfl, b2⟩
  · go_wp2
    go_ret
    exact ⟨rfl, b2⟩
  · go_wp2_with fail
    refine (HC.out _ b2).mono ?_
    rintro e w3 ⟨rfl, k3⟩
    go_wp2
    go_ret
    exact ⟨rfl, below_next b2 k3⟩

end Go.Proofs.YtbnchnbblchmnaaGreatDoor

namespace Go.Proofs.YtbnchnbblchmnaaGreatDoor
open Go.RowKit

theorem Past.place {s : List UInt8} {k : Nat} {l L : List Nat} (h : Past s k l) (hr : decR s = some L) : k = (encL l).length := by
  have h1 := congrArg List.length (h.took hr).2
  rw [List.length_take] at h1
  have := h.1
  omega

set_option maxRecDepth 20000 in
set_option maxHeartbeats 3200000 in
theorem prSpace_any (s : List UInt8) (L : List Nat) (w : World) (hd : decR s = some L) (hlen : s.length ≤ 5000) :
    Calls Tryz.prog 104 #[.string (str s)] w fun e w' => e = .returned (.tuple #[.int .i64 ((spaceN s).1 : Int), .int .i64 ((spaceN s).2 : Int)]) ∧ Below w.heap.size w w' := by
  obtain ⟨hs0, hok0⟩ := enc_dec hd
  have HS := Lib.hid hs0
  have HOk := Lib.hid hok0
  have HT := Lib.hid hd
  obtain ⟨R, hR⟩ : ∃ R, spaceN s = R := ⟨_, rfl⟩
  rw [hR]
  have HR := Lib.hid hR
  have hsz : (str s).size = s.length := rfl
  clear hR hs0 hok0 hd
  go_enter Tryz.func104, Tryz.ntmps104
  go_wp2
  go_loopw [2] (fun v wr => ∃ (pos : Nat) (l : List Nat) (E : Int), v = .int .i64 E ∧ Hid (EndAt l E) ∧ wr.heap[w.heap.size]? = some (.stringIter (str s) pos) ∧ Hid (Past s pos l) ∧ Below w.heap.size w wr) (fun _ wr => s.length - wr.iterPos w.heap.size)
  case atStart =>
    exact ⟨0, [], -1, rfl, Lib.hid EndAt.start, World.iter_heap w (str s) 0, Lib.hid (Past.start s), (Below.refl _ _).alloc (Nat.le_refl _) _⟩
  case round =>
    obtain ⟨pos, l, E, rfl, HE, hit, HP, hb⟩ := hrel
    have hks : w.heap.size < wr.heap.size := (Array.getElem?_eq_some_iff.1 hit).1
    by_cases hp : pos < s.length
    · obtain ⟨c, n, hcn⟩ : ∃ c n, Utf8.decode (str s) pos = (c, n) := ⟨_, _, rfl⟩
      have hnx : ∀ ty, (Instr.next (.pointer (some ⟨w.heap.size, 0, none⟩)) true ty).run Tryz.prog wr = _ := fun ty => Lib.run_next_any_at wr w.heap.size (str s) pos ty hit hp
      have hit2 := Lib.iterAt_heap wr w.heap.size (str s) pos (pos + (Utf8.decode (str s) pos).2) hit
      have hbw2 := Lib.below_iterAt hb (k := w.heap.size) (by omega) (str s) (pos + (Utf8.decode (str s) pos).2)
      have hcm := decode_le (str s) pos
      simp only [hcn] at hnx hit2 hbw2 hcm
      have hcz : (c : Int) ≤ 2147483647 := by omega
      have hcz0 : (0 : Int) ≤ (c : Int) := by omega
      have hc : hasR (c : Int) = true := by
        cases hc : hasR (c : Int) with
        | true => rfl
        | false => have h := HP.out.rune_bad hp hcn hc; rw [HT.out] at h; cases h
      obtain ⟨h1, h0⟩ := HP.out.rune hp hcn hc
      have HN := Lib.hid h1
      have hle := h1.1
      have hpl := HP.out.place HT.out
      obtain ⟨m, hm⟩ := (h1.took HT.out).1
      rw [List.append_assoc] at hm
      have HFd : Hid (c ≠ 32 → 0 ≤ E → ∃ N : Nat, E = (N : Int) ∧ R = (N, pos)) := Lib.hid (fun h2 h3 => by
        obtain ⟨N, e1, e2⟩ := EndAt.found (s := s) (l := l) (m := m) (c := c) (by have h4 := HOk.out; rw [hm] at h4; exact h4) (by have h4 := HS.out; rw [hm] at h4; exact h4.symm) HE.out h3 h2
        exact ⟨N, e1, by rw [← HR.out, e2, ← hpl]⟩)
      have HFst : Hid (E < 0 → EndAt (l ++ [32]) (pos : Int)) := Lib.hid (fun h2 => by rw [hpl]; exact HE.out.first h2)
      have HMo : Hid (0 ≤ E → EndAt (l ++ [32]) E) := Lib.hid (fun h2 => HE.out.more h2)
      have HOt : Hid (E < 0 → c ≠ 32 → EndAt (l ++ [c]) E) := Lib.hid (fun h2 h3 => HE.out.other h2 h3)
      have hplz : pos ≤ 5000 := by omega
      obtain ⟨W, hW⟩ : ∃ W, wr.iterAt w.heap.size (str s) (pos + n) = W := ⟨_, rfl⟩
      rw [hW] at hnx hit2 hbw2
      clear hcn h1 hc hW hm hpl
      by_cases h32 : c = 32
      · have t1 : ((c : Int) != 32) = false := by rw [h32]; rfl
        have t2 : ((c : Int) == 32) = true := by rw [h32]; rfl
        have e32 : l ++ [c] = l ++ [32] := by rw [h32]
        rw [e32] at HN
        clear e32 h32 HFd HOt
        by_cases hE : E < 0
        · have t3 : decide (E < 0) = true := decide_eq_true hE
          have HE2 := Lib.hid (HFst.out hE)
          clear HFst HMo hE
          go_wp2
          go_roundw
          case rel => exact ⟨pos + n, _, _, rfl, HE2, hit2, HN, hbw2⟩
          case measure =>
            rw [iterPos_of hit2, iterPos_of hit]
            omega
        · have t3 : decide (E < 0) = false := decide_eq_false hE
          have HE2 := Lib.hid (HMo.out (by omega))
          clear HFst HMo hE
          go_wp2
          go_roundw
          case rel => exact ⟨pos + n, _, _, rfl, HE2, hit2, HN, hbw2⟩
          case measure =>
            rw [iterPos_of hit2, iterPos_of hit]
            omega
      · have t1 : ((c : Int) != 32) = true := by
          have h9 : ((c : Int) == 32) = false := eqb_false (by omega)
          rw [bne, h9]; rfl
        have t2 : ((c : Int) == 32) = false := eqb_false (by omega)
        clear HFst HMo
        by_cases hE : E < 0
        · have t3 : decide (0 ≤ E) = false := decide_eq_false (by omega)
          have HE2 := Lib.hid (HOt.out hE h32)
          clear HOt HFd hE h32
          go_wp2
          go_roundw
          case rel => exact ⟨pos + n, _, _, rfl, HE2, hit2, HN, hbw2⟩
          case measure =>
            rw [iterPos_of hit2, iterPos_of hit]
            omega
        · have t3 : decide (0 ≤ E) = true := decide_eq_true (by omega)
          obtain ⟨N, rfl, e2⟩ := HFd.out h32 (by omega)
          have HE2 := Lib.hid e2
          clear HOt HFd hE h32 e2
          go_wp2
          go_ret2
          rw [HE2.out]
          exact ⟨rfl, hbw2⟩
    · have HE2 : Hid (R = (0, 0)) := Lib.hid (by
        have h := HP.out.done hp
        obtain ⟨h2, h3⟩ := enc_dec h
        rw [← HR.out]
        exact EndAt.none_ h3 h2.symm HE.out)
      have hnx : ∀ ty, (Instr.next (.pointer (some ⟨w.heap.size, 0, none⟩)) true ty).run Tryz.prog wr = _ := fun ty => Lib.run_next_end_at wr w.heap.size (str s) pos ty hit hp
      go_wp2
      go_ret2
      rw [HE2.out]
      exact ⟨rfl, hb⟩

set_option maxRecDepth 20000 in
set_option maxHeartbeats 6400000 in
theorem prDivide9_any (lang s : List UInt8) (w : World) (hS : Ready9 w) (hl : lang.length ≤ 1000) (hs : s.length ≤ 500) :
    Calls Tryz.prog 62 #[.string (str lang), .string (str s)] w fun e w' => e = .returned (.tuple #[.int .i64 ((divN lang s).1 : Int), .int .i64 ((divN lang s).2 : Int)]) ∧ Below w.heap.size w w' := by
  have HAr := Lib.hid (prArticles9_any lang w hl)
  have HFew := Lib.hid (arts_few lang)
  have HCu := Lib.hid (fun W (hW : Below w.heap.size w W) => prCut_any s 2 W (hS.below hW) (by omega))
  by_cases h0 : (cutR s 2).length = 0
  · have hD : divN lang s = (0, 0) := by unfold divN; rw [if_pos h0]
    rw [hD]
    have hC : cutR s 2 = [] := List.length_eq_zero_iff.1 h0
    rw [hC] at HCu
    have hsz : (str ([] : List UInt8)).size = 0 := rfl
    clear hD hC h0 hS
    go_enter Tryz.func62, Tryz.ntmps62
    go_wp2_with fail
    refine HAr.out.mono ?_
    rintro e w1 ⟨A, n, c, rfl, hA, k1⟩
    have HA1 := Lib.hid hA
    have hn : n ≤ 20 := by have := hA.len; have := HFew.out; omega
    clear hA
    go_wp2_with fail
    refine (HCu.out _ k1).mono ?_
    rintro e w2 ⟨rfl, k2⟩
    have b2 := below_next k1 k2
    have HA2 := Lib.hid (HA1.out.up k2)
    go_wp2
    go_ret2
    exact ⟨rfl, b2⟩
  obtain ⟨L, hL⟩ : ∃ L, decR s = some L := by
    cases hd : decR s with
    | none => rw [cutR_none hd] at h0; exact absurd rfl h0
    | some L => exact ⟨L, rfl⟩
  have hcl : (cutR s 2).length ≤ s.length := by
    rw [cutR_some hL (by decide)]
    obtain ⟨e1, _⟩ := enc_dec hL
    rw [← e1]
    conv => rhs; rw [← List.take_append_drop 2 L, encL_app, List.length_append]
    exact Nat.le_add_right _ _
  have hel : (spaceN s).1 ≤ s.length := by
    obtain ⟨-, -, -, -, hwl⟩ := word_split s
    unfold spaceN
    split
    · exact hwl
    · exact Nat.zero_le _
  have hsl1 := fun W => str_pre (P := Tryz.prog) 9 Tryz.underlying9 s (cutR s 2).length hcl W
  have hsl2 := fun W => str_pre (P := Tryz.prog) 9 Tryz.underlying9 s (spaceN s).1 hel W
  have HDs := Lib.hid (fun W => prSpace_any s L W hL (by omega))
  have HI1 := Lib.hid (fun W (hW : Below w.heap.size w W) A n c (h : Arr sv W W.heap.size (.slice A n c) (artsOf lang)) (hn : n ≤ 20) => (show Calls Tryz.prog 103 #[.slice A n c, .string (str (s.take (cutR s 2).length)), .bool true] W fun e w' => e = .returned (.bool (artB lang (s.take (cutR s 2).length) true)) ∧ Below W.heap.size W w' from prIsArt_any A n c (artsOf lang) (s.take (cutR s 2).length) true W (hS.below hW) h (by omega) (by rw [List.length_take]; omega)))
  have HI2 := Lib.hid (fun W (hW : Below w.heap.size w W) A n c (h : Arr sv W W.heap.size (.slice A n c) (artsOf lang)) (hn : n ≤ 20) => (show Calls Tryz.prog 103 #[.slice A n c, .string (str (s.take (spaceN s).1)), .bool false] W fun e w' => e = .returned (.bool (artB lang (s.take (spaceN s).1) false)) ∧ Below W.heap.size W w' from prIsArt_any A n c (artsOf lang) (s.take (spaceN s).1) false W (hS.below hW) h (by omega) (by rw [List.length_take]; omega)))
  have hDv : divN lang s = if artB lang (s.take (cutR s 2).length) true = true ∧ (cutR s 2).length < s.length ∧ s[(cutR s 2).length]? ≠ some 32 then ((cutR s 2).length, (cutR s 2).length)
    else if artB lang (s.take (spaceN s).1) false = true then spaceN s else (0, 0) := by unfold divN; rw [if_neg h0]
  obtain ⟨l, hl9⟩ : ∃ l, artsOf lang = l := ⟨_, rfl⟩
  rw [hl9] at HAr HFew HI1 HI2
  obtain ⟨D, hD⟩ : ∃ D, divN lang s = D := ⟨_, rfl⟩
  rw [hD] at hDv ⊢
  obtain ⟨R1, hR1⟩ : ∃ r, artB lang (s.take (cutR s 2).length) true = r := ⟨_, rfl⟩
  obtain ⟨R2, hR2⟩ : ∃ r, artB lang (s.take (spaceN s).1) false = r := ⟨_, rfl⟩
  rw [hR1] at HI1 hDv
  rw [hR2] at HI2 hDv
  obtain ⟨Cu, hCu⟩ : ∃ C, cutR s 2 = C := ⟨_, rfl⟩
  rw [hCu] at HCu HI1 hDv hcl hsl1 h0
  have hCz : (str Cu).size = Cu.length := rfl
  obtain ⟨T, hT⟩ : ∃ T, Cu.length = T := ⟨_, rfl⟩
  rw [hT] at HI1 hDv hcl hsl1 h0 hCz
  obtain ⟨Sp, hSp⟩ : ∃ S, spaceN s = S := ⟨_, rfl⟩
  rw [hSp] at HDs HI2 hDv hel hsl2
  obtain ⟨E, R⟩ := Sp
  simp only at HDs HI2 hDv hel hsl2
  have hsz : (str s).size = s.length := rfl
  have z0 : ((T : Int) == 0) = false := eqb_false (by omega)
  clear hL hl9 hD hR1 hR2 hCu hT hSp hS hl
  by_cases g1 : R1 = true
  · subst g1
    by_cases g2 : T < s.length
    · have q2 : decide ((T : Int) < (s.length : Int)) = true := decide_eq_true (by omega)
      have q2n : decide (T < s.length) = true := decide_eq_true g2
      have q2z : (T : Int) < (s.length : Int) := by omega
      have hkT : T < (str s).size := g2
      have hTT := str_at s T hkT
      by_cases g3 : (str s)[T] = 32
      · have q3 : (((str s)[T].toNat : Int) != 32) = false := by rw [g3]; rfl
        have HE : Hid ((R2 = false → D = (0, 0)) ∧ (R2 = true → D = (E, R))) := Lib.hid (by
          rw [if_neg (by rintro ⟨-, -, h9⟩; exact h9 (by rw [hTT, g3]))] at hDv
          exact ⟨fun e => by rw [hDv, e]; rfl, fun e => by rw [hDv, e]; rfl⟩)
        clear hDv g3 hTT h0 g2
        go_enter Tryz.func62, Tryz.ntmps62
        go_wp2_with fail
        refine HAr.out.mono ?_
        rintro e w1 ⟨A, n, c, rfl, hA, k1⟩
        have HA1 := Lib.hid hA
        have hn : n ≤ 20 := by have := hA.len; have := HFew.out; omega
        clear hA
        go_wp2_with fail
        refine (HCu.out _ k1).mono ?_
        rintro e w2 ⟨rfl, k2⟩
        have b2 := below_next k1 k2
        have HA2 := Lib.hid (HA1.out.up k2)

        go_wp2_with fail
        refine (HI1.out _ b2 _ _ _ HA2.out hn).mono ?_
        rintro e w3 ⟨rfl, k3⟩
        have b4 := below_next b2 k3
        have HA2 := Lib.hid (HA2.out.up k3)

        go_wp2_with fail
        refine (HDs.out _).mono ?_
        rintro e w5 ⟨rfl, k5⟩
        have b5 := below_next b4 k5
        go_wp2_with fail
        refine (HI2.out _ b5 _ _ _ (HA2.out.up k5) hn).mono ?_
        rintro e w6 ⟨rfl, k6⟩
        have b6 := below_next b5 k6
        cases R2 with
        | true =>
          have hE : D = (E, R) := HE.out.2 rfl
          subst hE
          go_wp2
          go_ret2
          exact ⟨rfl, b6⟩
        | false =>
          have hE : D = (0, 0) := HE.out.1 rfl
          subst hE
          go_wp2
          go_ret2
          exact ⟨rfl, b6⟩
      · have q3 : (((str s)[T].toNat : Int) != 32) = true := by
          have h1 : (((str s)[T].toNat : Int) == 32) = false := eqb_false (fun e2 => g3 (UInt8.toNat_inj.1 (by simpa using Int.ofNat.inj e2)))
          rw [bne, h1]; rfl
        have hE : D = (T, T) := by
          rw [if_pos ⟨rfl, g2, by rw [hTT]; simpa using g3⟩] at hDv
          exact hDv
        subst hE
        clear hDv g3 hTT h0 g2
        go_enter Tryz.func62, Tryz.ntmps62
        go_wp2_with fail
        refine HAr.out.mono ?_
        rintro e w1 ⟨A, n, c, rfl, hA, k1⟩
        have HA1 := Lib.hid hA
        have hn : n ≤ 20 := by have := hA.len; have := HFew.out; omega
        clear hA
        go_wp2_with fail
        refine (HCu.out _ k1).mono ?_
        rintro e w2 ⟨rfl, k2⟩
        have b2 := below_next k1 k2
        have HA2 := Lib.hid (HA1.out.up k2)

        go_wp2_with fail
        refine (HI1.out _ b2 _ _ _ HA2.out hn).mono ?_
        rintro e w3 ⟨rfl, k3⟩
        have b4 := below_next b2 k3
        have HA2 := Lib.hid (HA2.out.up k3)

        go_wp2
        go_ret2
        exact ⟨rfl, b4⟩
    · have q2 : decide ((T : Int) < (s.length : Int)) = false := decide_eq_false (by omega)
      have q2n : decide (T < s.length) = false := decide_eq_false g2
      have HE : Hid ((R2 = false → D = (0, 0)) ∧ (R2 = true → D = (E, R))) := Lib.hid (by
        rw [if_neg (by rintro ⟨-, h9, -⟩; exact g2 h9)] at hDv
        exact ⟨fun e => by rw [hDv, e]; rfl, fun e => by rw [hDv, e]; rfl⟩)
      clear hDv h0 g2
      go_enter Tryz.func62, Tryz.ntmps62
      go_wp2_with fail
      refine HAr.out.mono ?_
      rintro e w1 ⟨A, n, c, rfl, hA, k1⟩
      have HA1 := Lib.hid hA
      have hn : n ≤ 20 := by have := hA.len; have := HFew.out; omega
      clear hA
      go_wp2_with fail
      refine (HCu.out _ k1).mono ?_
      rintro e w2 ⟨rfl, k2⟩
      have b2 := below_next k1 k2
      have HA2 := Lib.hid (HA1.out.up k2)

      go_wp2_with fail
      refine (HI1.out _ b2 _ _ _ HA2.out hn).mono ?_
      rintro e w3 ⟨rfl, k3⟩
      have b4 := below_next b2 k3
      have HA2 := Lib.hid (HA2.out.up k3)

      go_wp2_with fail
      refine (HDs.out _).mono ?_
      rintro e w5 ⟨rfl, k5⟩
      have b5 := below_next b4 k5
      go_wp2_with fail
      refine (HI2.out _ b5 _ _ _ (HA2.out.up k5) hn).mono ?_
      rintro e w6 ⟨rfl, k6⟩
      have b6 := below_next b5 k6
      cases R2 with
      | true =>
        have hE : D = (E, R) := HE.out.2 rfl
        subst hE
        go_wp2
        go_ret2
        exact ⟨rfl, b6⟩
      | false =>
        have hE : D = (0, 0) := HE.out.1 rfl
        subst hE
        go_wp2
        go_ret2
        exact ⟨rfl, b6⟩
  · obtain rfl : R1 = false := by simpa using g1
    have HE : Hid ((R2 = false → D = (0, 0)) ∧ (R2 = true → D = (E, R))) := Lib.hid (by
      rw [if_neg (by rintro ⟨h9, -⟩; cases h9)] at hDv
      exact ⟨fun e => by rw [hDv, e]; rfl, fun e => by rw [hDv, e]; rfl⟩)
    clear hDv h0 g1
    go_enter Tryz.func62, Tryz.ntmps62
    go_wp2_with fail
    refine HAr.out.mono ?_
    rintro e w1 ⟨A, n, c, rfl, hA, k1⟩
    have HA1 := Lib.hid hA
    have hn : n ≤ 20 := by have := hA.len; have := HFew.out; omega
    clear hA
    go_wp2_with fail
    refine (HCu.out _ k1).mono ?_
    rintro e w2 ⟨rfl, k2⟩
    have b2 := below_next k1 k2
    have HA2 := Lib.hid (HA1.out.up k2)

    go_wp2_with fail
    refine (HI1.out _ b2 _ _ _ HA2.out hn).mono ?_
    rintro e w3 ⟨rfl, k3⟩
    have b4 := below_next b2 k3
    have HA2 := Lib.hid (HA2.out.up k3)

    go_wp2_with fail
    refine (HDs.out _).mono ?_
    rintro e w5 ⟨rfl, k5⟩
    have b5 := below_next b4 k5
    go_wp2_with fail
    refine (HI2.out _ b5 _ _ _ (HA2.out.up k5) hn).mono ?_
    rintro e w6 ⟨rfl, k6⟩
    have b6 := below_next b5 k6
    cases R2 with
    | true =>
      have hE : D = (E, R) := HE.out.2 rfl
      subst hE
      go_wp2
      go_ret2
      exact ⟨rfl, b6⟩
    | false =>
      have hE : D = (0, 0) := HE.out.1 rfl
      subst hE
      go_wp2
      go_ret2
      exact ⟨rfl, b6⟩

end Go.Proofs.YtbnchnbblchmnaaGreatDoor

namespace Go.Proofs.YtbnchnbblchmnaaGreatDoor
open Go.RowKit

theorem prDiv9_any (lang s : List UInt8) (w : World) (hS : Ready9 w) (hl : lang.length ≤ 1000) (hs : s.length ≤ 500) :
    Calls Tryz.prog 62 #[.string (str lang), .string (str s)] w fun e w' => e = .returned (.tuple #[.int .i64 ((beginN lang s).1 : Int), .int .i64 ((beginN lang s).2 : Int)]) ∧ Below w.heap.size w w' := by
  rw [← div_begin]
  exact prDivide9_any lang s w hS hl hs

set_option maxRecDepth 20000 in
set_option maxHeartbeats 3200000 in
theorem prSkip9_any (lang s : List UInt8) (w : World) (hS : Ready9 w) (hl : lang.length ≤ 1000) (hs : s.length ≤ 500) :
    Calls Tryz.prog 32 #[.string (str lang), .string (str s)] w fun e w' => e = .returned (.int .i64 (skipN lang s : Int)) ∧ Below w.heap.size w w' := by
  have HB := Lib.hid (prDiv9_any lang s w hS hl hs)
  unfold skipN
  obtain ⟨N, hN⟩ : ∃ N, beginN lang s = N := ⟨_, rfl⟩
  rw [hN] at HB ⊢
  clear hN
  go_enter Tryz.func32, Tryz.ntmps32
  go_wp2_with fail
  refine HB.out.mono ?_
  rintro e w1 ⟨rfl, k1⟩
  go_wp2
  go_ret
  exact ⟨rfl, k1⟩

set_option maxRecDepth 20000 in
set_option maxHeartbeats 3200000 in
theorem prStrip9_any (lang s : List UInt8) (w : World) (hS : Ready9 w) (hl : lang.length ≤ 1000) (hs : s.length ≤ 500) :
    Calls Tryz.prog 12 #[.string (str lang), .string (str s)] w fun e w' => e = .returned (.string (str (stripN lang s))) ∧ Below w.heap.size w w' := by
  have HB := Lib.hid (prSkip9_any lang s w hS hl hs)
  have hle := (begin_le lang s).2
  have hsl := fun W => str_suf (P := Tryz.prog) 9 Tryz.underlying9 s (skipN lang s) hle W
  unfold stripN
  obtain ⟨N, hN⟩ : ∃ N, skipN lang s = N := ⟨_, rfl⟩
  rw [hN] at HB hsl ⊢
  clear hN hle
  go_enter Tryz.func12, Tryz.ntmps12
  go_wp2_with fail
  refine HB.out.mono ?_
  rintro e w1 ⟨rfl, k1⟩
  go_wp2
  go_ret
  exact ⟨rfl, k1⟩

theorem cut_len9 (s : List UInt8) (k : Int) : (cutR s k).length ≤ s.length := by
  by_cases h1 : k < 1
  · rw [cutR_less h1]; exact Nat.zero_le _
  · cases hd : decR s with
    | none => rw [cutR_none hd]; exact Nat.zero_le _
    | some l =>
      rw [cutR_some hd h1]
      obtain ⟨e1, _⟩ := enc_dec hd
      rw [← e1]
      conv => rhs; rw [← List.take_append_drop k.toNat l, encL_app, List.length_append]
      exact Nat.le_add_right _ _
theorem sortP_cases (s : List UInt8) (k : Int) : (cutR s k = [] → sortP s k = s) ∧ (9 < k → sortP s k = s) ∧ (s.drop (spN s (cutR s k).length) = [] → sortP s k = s) ∧ (cutR s k ≠ [] → ¬ 9 < k → s.drop (spN s (cutR s k).length) ≠ [] → sortP s k = s.drop (spN s (cutR s k).length)) := by
  unfold sortP
  refine ⟨fun h => if_pos (.inl h), fun h => if_pos (.inr (.inl h)), fun h => if_pos (.inr (.inr h)), fun h1 h2 h3 => if_neg ?_⟩
  rintro (h | h | h)
  · exact h1 h
  · exact h2 h
  · exact h3 h

end Go.Proofs.YtbnchnbblchmnaaGreatDoor
