/-
  The body of TranslitCyrillic.
  The body of TranslitJoins.
  The body of TranslitStays.
-/
import Derived.Test.YtomkipddbmnipaaDoorPkAQ
import Derived.Deep.RegionHeld3
namespace Go.Proofs.YtomkipddbmnipaaDoor
open Go.RowKit

def cyrAt (b : UInt8) : RuleL := cyrT.getD (b.toNat % 64) ([], [])
theorem cyr_get (b : UInt8) : cyrT[b.toNat % 64]? = some (cyrAt b) := by
  have h : b.toNat % 64 < cyrT.length := by show _ < 64; omega
  unfold cyrAt
  rw [List.getD, List.getElem?_eq_getElem h]
  rfl
theorem cyr_mem (b : UInt8) : cyrAt b ∈ cyrT := List.mem_of_getElem? (cyr_get b)
def cyrS (bs : List UInt8) : List UInt8 := (bs.map cyrAt).flatMap fun x => x.1
def cyrX (bs : List UInt8) : List UInt8 := (bs.map cyrAt).flatMap fun x => x.2
theorem cyrS_snoc (bs : List UInt8) (b : UInt8) : cyrS (bs ++ [b]) = cyrS bs ++ (cyrAt b).1 := by unfold cyrS; simp
theorem flat_short (M : Nat) (f : RuleL → List UInt8) : ∀ xs : List RuleL, (∀ x ∈ xs, (f x).length ≤ M) → (xs.flatMap f).length ≤ xs.length * M
  | [], _ => by simp
  | x :: xs, h => by
    have h1 := flat_short M f xs fun y hy => h y (by simp [hy])
    have h2 := h x (by simp)
    rw [List.flatMap_cons, List.length_append, List.length_cons, Nat.add_mul, Nat.one_mul]
    omega
theorem cyrS_len (bs : List UInt8) : (cyrS bs).length ≤ bs.length * 30 := by
  have := flat_short 30 (fun x => x.1) (bs.map cyrAt) fun x hx => by
    obtain ⟨b, _, rfl⟩ := List.mem_map.1 hx
    exact ((few_of cyr_few).2 _ (cyr_mem b)).1
  rw [List.length_map] at this
  exact this
theorem cyrX_len (bs : List UInt8) : (cyrX bs).length ≤ bs.length * 30 := by
  have := flat_short 30 (fun x => x.2) (bs.map cyrAt) fun x hx => by
    obtain ⟨b, _, rfl⟩ := List.mem_map.1 hx
    exact ((few_of cyr_few).2 _ (cyr_mem b)).2
  rw [List.length_map] at this
  exact this
theorem cyr_facts (bs : List UInt8) : toL cyrT (cyrS bs) = cyrX bs ∧ coversL cyrT (cyrS bs) = true ∧ backL cyrT (cyrX bs) = cyrS bs ∧ scriptR (cyrX bs) ≤ 1 :=
  cyr_letters (bs.map cyrAt) fun x hx => by obtain ⟨b, _, rfl⟩ := List.mem_map.1 hx; exact cyr_mem b

set_option maxRecDepth 20000 in
set_option maxHeartbeats 3200000 in
theorem translitCyrillic_v (A : Option Addr) (n c : Nat) (bs : List UInt8) (w : World) (hS : Ready7 w) (h : Arr bv w w.heap.size (.slice A n c) bs) (hn : n ≤ 9223372036854775807) :
    Calls Tryd.prog 8 #[.slice A n c] w fun e w' => e = .returned (.bool true) ∧ Below w.heap.size w w' := by
  have HL := Lib.hid h.len
  by_cases h30 : 30 < n
  · have t1 : decide (30 < (n : Int)) = true := by simp; omega
    go_enter Tryd.func8, Tryd.ntmps8
    go_wp2_with fail
    refine (awake7_any _ hS).mono ?_
    rintro e w1 ⟨rfl, k1⟩
    go_wp2
    go_ret
    exact ⟨rfl, k1⟩
  have t1 : decide (30 < (n : Int)) = false := by simp; omega
  obtain ⟨S, hSS⟩ : ∃ S, cyrS bs = S := ⟨_, rfl⟩
  obtain ⟨X, hX⟩ : ∃ X, cyrX bs = X := ⟨_, rfl⟩
  have hf := cyr_facts bs
  have hSl0 := cyrS_len bs
  have hXl0 := cyrX_len bs
  rw [hSS, hX] at hf
  rw [hSS] at hSl0
  rw [hX] at hXl0
  have hSl : S.length ≤ 5000 := by have := HL.out; omega
  have hXl : X.length ≤ 5000 := by have := HL.out; omega
  have HTo := Lib.hid hf.1
  have HCo := Lib.hid hf.2.1
  have HBa := Lib.hid hf.2.2.1
  obtain ⟨sc, hsc⟩ : ∃ k, scriptR X = k := ⟨_, rfl⟩
  have hsc1 : sc ≤ 1 := by rw [← hsc]; exact hf.2.2.2
  have HSc := Lib.hid hsc
  have HSS := Lib.hid hSS
  have qS : ((str S).toList == (str S).toList) = true := beq_self_eq_true _
  have hn30 : n ≤ 30 := by omega
  clear hSS hX hf hSl0 hXl0 hsc h30
  go_enter Tryd.func8, Tryd.ntmps8
  go_wp2_with fail
  refine (awake7_any _ hS).mono ?_
  rintro e w1 ⟨rfl, k1⟩
  go_wp2_with fail
  refine (prCyr7_any _ (hS.below k1)).mono ?_
  rintro e w2 ⟨A2, c2, rfl, T2, k2⟩
  have p2 := below_next k1 k2
  have HS2 := Lib.hid (hS.below p2)
  have HT2 := Lib.hid T2
  obtain ⟨b2, o2, rfl, hB2, hc2⟩ := T2.cells (by decide)
  have H2 := Lib.hid hc2
  clear T2 hc2
  go_wp2
  go_loopw [4, 20] (fun sv_ i wr => ∃ (k : Nat) (o : List UInt8), k ≤ n ∧ i = .int .i64 (k : Int) ∧ sv_ = .string (str o) ∧ Hid (cyrS (bs.take k) = o) ∧ o.length ≤ 30 * k ∧ w2 = wr) (fun _ i _ => n - (intOf i).toNat)
  case atStart => exact ⟨0, [], by omega, rfl, rfl, Lib.hid rfl, by simp, rfl⟩
  case round =>
    obtain ⟨k, o, hk, rfl, rfl, HO, hol, rfl⟩ := hrel
    by_cases hlt : k < n
    · have i1 : decide ((k : Int) < (n : Int)) = true := by simp; omega
      have kz : (k : Int) < (n : Int) := by omega
      obtain ⟨b0, o0, rfl, hB0, hc0⟩ := h.some_ (by omega)
      obtain ⟨b, hb⟩ : ∃ a, bs[k]? = some a := ⟨_, List.getElem?_eq_getElem (by have := HL.out; omega)⟩
      have d0 := (p2.cell (p := ⟨b0, o0 + k, none⟩) hB0).trans (hc0 k b hb)
      simp only [bv] at d0
      have hget := cyr_get b
      have d1 := (H2.out _ _ hget).1
      have hle := ((few_of cyr_few).2 _ (cyr_mem b)).1
      have HN : Hid (cyrS (bs.take (k + 1)) = o ++ (cyrAt b).1) := Lib.hid (by rw [take_next hb, cyrS_snoc, HO.out])
      obtain ⟨y, hy⟩ : ∃ y, (cyrAt b).1 = y := ⟨_, rfl⟩
      rw [hy] at d1 hle HN
      have hbl : b.toNat < 256 := b.toNat_lt
      obtain ⟨m, hm⟩ : ∃ m, b.toNat % 64 = m := ⟨_, rfl⟩
      have hm64 : m < 64 := by omega
      have e1 : (b.toNat : Int) % 64 = (m : Int) := by omega
      have e2 : (b.toNat : Int).tmod 64 = (m : Int) := by rw [Int.tmod_eq_emod_of_nonneg (by omega)]; exact e1
      have mz : (m : Int) < 64 := by omega
      rw [hm] at d1
      have hadd : ∀ W : World, (Op.stringOp .add (str o) (str y)).run Tryd.prog W = _ := fun W => add_strs o y (by omega)
      clear hc0 hb hget hy hm
      go_wp2
      go_roundw
      case rel => exact ⟨k + 1, o ++ y, by omega, by go_num, rfl, HN, by rw [List.length_append]; omega, trivial⟩
      case measure => simp [intOf]; omega
    · obtain rfl : k = n := by omega
      obtain rfl : o = S := by have := HO.out; rw [List.take_of_length_le (by rw [HL.out]; omega), HSS.out] at this; exact this.symm
      have HSr := Lib.hid fun W => refScript_any X W (by omega)
      rw [HSc.out] at HSr
      go_wp2_with fail
      refine (prTo7_at w2 _ 64 c2 cyrT o _ HS2.out HT2.out (Below.refl _ _) hSl X HTo.out).mono ?_
      rintro e w3 ⟨rfl, k3⟩
      have hsc01 : sc = 0 ∨ sc = 1 := by omega
      rcases hsc01 with rfl | rfl
      all_goals
        go_wp2_with fail
        refine (HSr.out _).mono ?_
        rintro e w4 ⟨rfl, k4⟩
        have p4 := below_next k3 k4
        go_wp2_with fail
        refine (prCovers7_at w2 _ 64 c2 cyrT o _ HS2.out HT2.out p4 hSl true HCo.out).mono ?_
        rintro e w5 ⟨rfl, k5⟩
        go_wp2_with fail
        refine (prBack7_at w2 _ 64 c2 cyrT X _ HS2.out HT2.out k5 hXl o HBa.out).mono ?_
        rintro e w6 ⟨rfl, k6⟩
        go_wp2
        go_ret
        exact ⟨rfl, below_next p2 k6⟩

end Go.Proofs.YtomkipddbmnipaaDoor

namespace Go.Proofs.YtomkipddbmnipaaDoor
open Go.RowKit

theorem single_cut {s : List UInt8} (hs : sideB s = true) (h : cutR s 1 = s) : ∃ c, okC c ∧ s = encC c := by
  obtain ⟨l, hl, he, hok, h1, _⟩ := side_enc hs
  rw [cutR_some hl (by decide)] at h
  have h2 : decR (encL (l.take (1 : Int).toNat)) = some (l.take (1 : Int).toNat) := dec_enc _ fun c hc => hok c (List.mem_of_mem_take hc)
  rw [h, hl] at h2
  have h3 := Option.some.inj h2
  match l, h1, h3, he, hok with
  | c :: m, _, h3, he, hok =>
    have : m = [] := by simpa using h3
    subst this
    refine ⟨c, hok c (by simp), ?_⟩
    rw [← he]
    simp [encL]
theorem singles_of {t : List RuleL} (hv : ValidL t) (h : ∀ x ∈ t, cutR x.1 1 = x.1) : Singles t := fun x hx => single_cut (hv.sides x hx).1 (h x hx)
theorem join_to {t : List RuleL} (h : ∀ x ∈ t, cutR x.1 1 = x.1) {a b : List UInt8} (ha : (decR a).isSome = true) (hb : (decR b).isSome = true) :
    toL t (a ++ b) = toL t a ++ toL t b ∧ (validL t = true → coversL t (a ++ b) = (coversL t a && coversL t b)) := by
  obtain ⟨la, hla⟩ := Option.isSome_iff_exists.1 ha
  obtain ⟨lb, hlb⟩ := Option.isSome_iff_exists.1 hb
  have hab : decR (a ++ b) = some (la ++ lb) := by rw [dec_app hla, hlb]; rfl
  cases hv : validL t with
  | false =>
    refine ⟨?_, fun h => by cases h⟩
    unfold toL
    rw [hv]
    simp
  | true =>
    obtain ⟨e1, e2⟩ := enc_dec hla
    have hrun := run_join (singles_of (valid_of hv) h) hlb la e2
    rw [e1] at hrun
    constructor
    · unfold toL
      rw [if_pos ⟨hv, by rw [hab]; rfl⟩, if_pos ⟨hv, ha⟩, if_pos ⟨hv, hb⟩, hrun]
    · intro _
      unfold coversL
      rw [hv, hab, hla, hlb, hrun]
      simp only [Option.isSome_some, Bool.true_and]
      by_cases h1 : (runL t a).2 = 0
      · rw [h1, decide_eq_true rfl, Bool.true_and, Nat.zero_add]
      · rw [decide_eq_false h1, Bool.false_and, decide_eq_false (by omega)]
theorem decB7_at (W : World) (s : List UInt8) (b : Bool) (w : World) (hk : Below W.heap.size W w) (hs : s.length ≤ 100000000) (hb : (decR s).isSome = b) :
    Calls Tryd.prog 24 #[.string (str s)] w fun e w' => ∃ A n c, e = .returned (.tuple #[.slice A n c, .bool b]) ∧ Below W.heap.size W w' := by
  subst hb
  refine (refDecode_any s w (by omega)).mono ?_
  rintro e w' ⟨h1, h2⟩
  obtain ⟨A, n, c, b, rfl, h⟩ := h1.form
  refine ⟨A, n, c, ?_, below_next hk h2⟩
  rcases h with ⟨rfl, l, h, _⟩ | ⟨rfl, h, _⟩
  · rw [h]; rfl
  · rw [h]; rfl

set_option maxRecDepth 20000 in
set_option maxHeartbeats 6400000 in
theorem translitJoins_v (A : Option Addr) (n c : Nat) (t : List RuleL) (a b : List UInt8) (w : World) (hS : Ready7 w) (h : Given w A n c t) (hl1 : a.length ≤ 9223372036854775807) (hl2 : b.length ≤ 9223372036854775807) :
    Calls Tryd.prog 6 #[.slice A n c, .string (str a), .string (str b)] w fun e w' => e = .returned (.bool true) ∧ Below w.heap.size w w' := by
  have HG := Lib.hid h
  have hza : (str a).size = a.length := rfl
  have hzb : (str b).size = b.length := rfl
  cases hf : fewL t with
  | false =>
    have HF := Lib.hid hf
    clear hf h
    go_enter Tryd.func6, Tryd.ntmps6
    go_wp2_with fail
    refine (awake7_any _ hS).mono ?_
    rintro e w1 ⟨rfl, k1⟩
    go_wp2_with fail
    refine (few7_any A n c t _ (HG.out.up k1)).mono ?_
    rintro e w2 ⟨rfl, rfl⟩
    rw [HF.out]
    go_wp2
    go_ret
    exact ⟨rfl, k1⟩
  | true =>
    have HF := Lib.hid hf
    have hT := h.table hf
    have hlen := (few_of hf).1
    have HLen := Lib.hid h.arr.len
    by_cases ga : 40 < a.length
    · have ta : decide (40 < (a.length : Int)) = true := by simp; omega
      clear hf h hT hlen
      go_enter Tryd.func6, Tryd.ntmps6
      go_wp2_with fail
      refine (awake7_any _ hS).mono ?_
      rintro e w1 ⟨rfl, k1⟩
      go_wp2_with fail
      refine (few7_any A n c t _ (HG.out.up k1)).mono ?_
      rintro e w2 ⟨rfl, rfl⟩
      rw [HF.out]
      go_wp2
      go_ret
      exact ⟨rfl, k1⟩
    have ta : decide (40 < (a.length : Int)) = false := by simp; omega
    by_cases gb : 40 < b.length
    · have tb : decide (40 < (b.length : Int)) = true := by simp; omega
      clear hf h hT hlen
      go_enter Tryd.func6, Tryd.ntmps6
      go_wp2_with fail
      refine (awake7_any _ hS).mono ?_
      rintro e w1 ⟨rfl, k1⟩
      go_wp2_with fail
      refine (few7_any A n c t _ (HG.out.up k1)).mono ?_
      rintro e w2 ⟨rfl, rfl⟩
      rw [HF.out]
      go_wp2
      go_ret
      exact ⟨rfl, k1⟩
    have tb : decide (40 < (b.length : Int)) = false := by simp; omega
    have hla : a.length ≤ 5000 := by omega
    have hlb : b.length ≤ 5000 := by omega
    have HSh := Lib.hid fun x hx => (few_of hf).2 x hx
    have hn90 : n ≤ 90 := by have := HLen.out; omega
    clear hf h hlen
    go_enter Tryd.func6, Tryd.ntmps6
    go_wp2_with fail
    refine (awake7_any _ hS).mono ?_
    rintro e w1 ⟨rfl, k1⟩
    go_wp2_with fail
    refine (few7_any A n c t _ (HG.out.up k1)).mono ?_
    rintro e w2 ⟨rfl, rfl⟩
    rw [HF.out]
    have hT1 := hT.up k1
    have HT1 := Lib.hid hT1
    have HS1 := Lib.hid (hS.below k1)
    go_wp2
    go_loopw [30] (fun i wr => ∃ k : Nat, k ≤ n ∧ i = .int .i64 (k : Int) ∧ Hid (∀ x ∈ t.take k, cutR x.1 1 = x.1) ∧ Below w1.heap.size w1 wr) (fun i _ => n - (intOf i).toNat)
    case atStart => exact ⟨0, by omega, rfl, Lib.hid (by simp), Below.refl _ _⟩
    case round =>
      obtain ⟨k, hk, rfl, HK, hb⟩ := hrel
      have hbs := hb.size
      by_cases hlt : k < n
      · have i1 : decide ((k : Int) < (n : Int)) = true := by simp; omega
        have kz : (k : Int) < (n : Int) := by omega
        obtain ⟨b0, o0, rfl, hB0, hc0⟩ := hT1.cells (by omega)
        obtain ⟨x, hx⟩ : ∃ a, t[k]? = some a := ⟨_, List.getElem?_eq_getElem (by have := HLen.out; omega)⟩
        have hxs := HSh.out x (List.mem_of_getElem? hx)
        have d0 := (hb.cell (p := ⟨b0, o0 + k * 2, none⟩) hB0).trans (hc0 k x hx).1
        have HCut := Lib.hid fun W => refCut_any x.1 1 W (by omega)
        have hBr : b0 < wr.heap.size := by omega
        have hq := strs_beq (cutR x.1 1) x.1
        have hq2 : ((str (cutR x.1 1)).toList != (str x.1).toList) = !decide (cutR x.1 1 = x.1) := by rw [bne, hq]
        by_cases hcx : cutR x.1 1 = x.1
        · rw [decide_eq_true hcx] at hq hq2
          have HK2 : Hid (∀ y ∈ t.take (k + 1), cutR y.1 1 = y.1) := Lib.hid fun y hy => by
            rw [take_next hx] at hy
            rcases List.mem_append.1 hy with hy | hy
            · exact HK.out y hy
            · rw [List.mem_singleton.1 hy]; exact hcx
          obtain ⟨cc, hcc⟩ : ∃ q, cutR x.1 1 = q := ⟨_, rfl⟩
          rw [hcc] at HCut hq hq2
          clear hc0 hx hcx hcc
          go_wp2
          go_region_held3 (fun v => v.cell? ⟨b0, o0 + k * 2, none⟩ = some (.string (str x.1))) (first | exact d0 | exact d5)
            (first | (go_at_call 23; (with_reducible refine (HCut.out _).mono ?_); rintro e w5 ⟨rfl, hb5⟩; have d5 := (hb5.cell (p := ⟨b0, o0 + k * 2, none⟩) hBr).trans d0))
          all_goals
            go_wp2
            go_roundw
            case rel => exact ⟨k + 1, by omega, by go_num, HK2, below_next hb.drew hb5⟩
            case measure => simp [intOf]; omega
        · rw [decide_eq_false hcx] at hq hq2
          obtain ⟨cc, hcc⟩ : ∃ q, cutR x.1 1 = q := ⟨_, rfl⟩
          rw [hcc] at HCut hq hq2
          clear hc0 hx hcx hcc
          go_wp2
          go_region_held3 (fun v => v.cell? ⟨b0, o0 + k * 2, none⟩ = some (.string (str x.1))) (first | exact d0 | exact d5)
            (first | (go_at_call 23; (with_reducible refine (HCut.out _).mono ?_); rintro e w5 ⟨rfl, hb5⟩; have d5 := (hb5.cell (p := ⟨b0, o0 + k * 2, none⟩) hBr).trans d0))
          all_goals
            go_wp2
            go_ret
            exact ⟨rfl, below_next k1 (below_next hb.drew hb5)⟩
      · obtain rfl : k = n := by omega
        have hall : ∀ x ∈ t, cutR x.1 1 = x.1 := by have := HK.out; rwa [List.take_of_length_le (by rw [HLen.out]; omega)] at this
        obtain ⟨ba, hba⟩ : ∃ q, (decR a).isSome = q := ⟨_, rfl⟩
        obtain ⟨bb, hbb⟩ : ∃ q, (decR b).isSome = q := ⟨_, rfl⟩
        have HJ : Hid (ba = true → bb = true → toL t (a ++ b) = toL t a ++ toL t b ∧ (validL t = true → coversL t (a ++ b) = (coversL t a && coversL t b))) := Lib.hid fun h1 h2 => join_to hall (hba.trans h1) (hbb.trans h2)
        have HBa := Lib.hid hba
        have HBb := Lib.hid hbb
        have HF2 := HF
        clear hall hba hbb
        go_wp2_with fail
        refine (decB7_at w1 a ba _ hb (by omega) HBa.out).mono ?_
        rintro e w3 ⟨A3, n3, c3, rfl, k3⟩
        go_wp2_with fail
        refine (decB7_at w1 b bb _ k3 (by omega) HBb.out).mono ?_
        rintro e w4 ⟨A4, n4, c4, rfl, k4⟩
        have HT4 := Lib.hid (HT1.out.up k4)
        go_wp2_with fail
        refine (own7_any A k c t _ HT4.out).mono ?_
        rintro e w5 ⟨A5, c5, rfl, T5, k5⟩
        have p5 := below_next k4 k5
        have HS5 := Lib.hid (HS1.out.below p5)
        have HO5 := Lib.hid T5
        clear T5 HBa HBb
        cases ba with
        | false =>
          go_wp2
          go_ret
          exact ⟨rfl, below_next k1 p5⟩
        | true =>
          cases bb with
          | false =>
            go_wp2
            go_ret
            exact ⟨rfl, below_next k1 p5⟩
          | true =>
            obtain ⟨hj1, hj2⟩ := HJ.out rfl rfl
            obtain ⟨x, hx⟩ : ∃ q, toL t a = q := ⟨_, rfl⟩
            obtain ⟨y, hy⟩ : ∃ q, toL t b = q := ⟨_, rfl⟩
            have hxl := to_len (s := a) HF.out
            have hyl := to_len (s := b) HF.out
            rw [hx] at hxl hj1
            rw [hy] at hyl hj1
            obtain ⟨v, hv⟩ : ∃ q, validL t = q := ⟨_, rfl⟩
            obtain ⟨ca, hca⟩ : ∃ q, coversL t a = q := ⟨_, rfl⟩
            obtain ⟨cb, hcb⟩ : ∃ q, coversL t b = q := ⟨_, rfl⟩
            rw [hv, hca, hcb] at hj2
            have HX := Lib.hid hx
            have HY := Lib.hid hy
            have HXY := Lib.hid hj1
            have HV := Lib.hid hv
            have HCa := Lib.hid hca
            have HCb := Lib.hid hcb
            have HCab := Lib.hid hj2
            have hab : (a ++ b).length ≤ 5000 := by rw [List.length_append]; omega
            have hadd : ∀ W : World, (Op.stringOp .add (str a) (str b)).run Tryd.prog W = _ := fun W => add_strs a b (by omega)
            have hadd2 : ∀ W : World, (Op.stringOp .add (str x) (str y)).run Tryd.prog W = _ := fun W => add_strs x y (by omega)
            have qxy : ((str (x ++ y)).toList == (str (x ++ y)).toList) = true := beq_self_eq_true _
            clear hx hy hj1 hv hca hcb hj2 HJ
            go_wp2_with fail
            refine (prTo7_at w5 A5 k c5 t (a ++ b) _ HS5.out HO5.out (Below.refl _ _) hab (x ++ y) HXY.out).mono ?_
            rintro e w6 ⟨rfl, k6⟩
            go_wp2_with fail
            refine (prTo7_at w5 A5 k c5 t a _ HS5.out HO5.out k6 hla x HX.out).mono ?_
            rintro e w7 ⟨rfl, k7⟩
            go_wp2_with fail
            refine (prTo7_at w5 A5 k c5 t b _ HS5.out HO5.out k7 hlb y HY.out).mono ?_
            rintro e w8 ⟨rfl, k8⟩
            go_wp2_with fail
            refine (prValid7_at w5 A5 k c5 t _ HS5.out HO5.out k8 v HV.out).mono ?_
            rintro e w9 ⟨rfl, k9⟩
            cases v with
            | false =>
              go_wp2
              go_ret
              exact ⟨rfl, below_next k1 (below_next p5 k9)⟩
            | true =>
              have HCab2 := Lib.hid (HCab.out rfl)
              clear HCab HV
              cases ca with
              | false =>
                rw [Bool.false_and] at HCab2
                go_wp2_with fail
                refine (prCovers7_at w5 A5 k c5 t (a ++ b) _ HS5.out HO5.out k9 hab false HCab2.out).mono ?_
                rintro e w10 ⟨rfl, k10⟩
                go_wp2_with fail
                refine (prCovers7_at w5 A5 k c5 t a _ HS5.out HO5.out k10 hla false HCa.out).mono ?_
                rintro e w11 ⟨rfl, k11⟩
                go_wp2
                go_ret
                exact ⟨rfl, below_next k1 (below_next p5 k11)⟩
              | true =>
                rw [Bool.true_and] at HCab2
                have qc : (cb == cb) = true := by simp
                go_wp2_with fail
                refine (prCovers7_at w5 A5 k c5 t (a ++ b) _ HS5.out HO5.out k9 hab cb HCab2.out).mono ?_
                rintro e w10 ⟨rfl, k10⟩
                go_wp2_with fail
                refine (prCovers7_at w5 A5 k c5 t a _ HS5.out HO5.out k10 hla true HCa.out).mono ?_
                rintro e w11 ⟨rfl, k11⟩
                go_wp2_with fail
                refine (prCovers7_at w5 A5 k c5 t b _ HS5.out HO5.out k11 hlb cb HCb.out).mono ?_
                rintro e w12 ⟨rfl, k12⟩
                go_wp2
                go_ret
                exact ⟨rfl, below_next k1 (below_next p5 k12)⟩

end Go.Proofs.YtomkipddbmnipaaDoor

namespace Go.Proofs.YtomkipddbmnipaaDoor
open Go.RowKit

theorem stays_to {t : List RuleL} {s : List UInt8} {L : List Nat} (hv : validL t = true) (hd : decR s = some L) (hno : ∀ x ∈ t, ∀ m, decR x.1 = some m → ∀ c ∈ m, ∀ d ∈ L, c ≠ d) : toL t s = s ∧ coversL t s = decide (s = []) := by
  obtain ⟨h1, h2⟩ := enc_dec hd
  have hr := run_stays (good_of (valid_of hv)) L h2 hno
  rw [h1] at hr
  constructor
  · unfold toL
    rw [if_pos ⟨hv, by rw [hd]; rfl⟩, hr]
  · unfold coversL
    rw [hv, hd, hr]
    simp only [Option.isSome_some, Bool.true_and]
    have hiff : L.length = 0 ↔ s = [] := by
      rw [List.length_eq_zero_iff, ← h1]
      constructor
      · rintro rfl; rfl
      · intro h
        cases L with
        | nil => rfl
        | cons c L => exact absurd (List.append_eq_nil_iff.1 (show encC c ++ encL L = [] from h)).1 (encC_ne c)
    by_cases h0 : s = []
    · rw [decide_eq_true h0, decide_eq_true (hiff.2 h0)]
    · rw [decide_eq_false h0, decide_eq_false (fun h => h0 (hiff.1 h))]
theorem decL7_any (s : List UInt8) (l : List Nat) (n : Nat) (w : World) (hs : s.length ≤ 100000000) (hd : decR s = some l) (hn : l.length = n) :
    Calls Tryd.prog 24 #[.string (str s)] w fun e w' => ∃ A c, e = .returned (.tuple #[.slice A n c, .bool true]) ∧ Arr nv w' w'.heap.size (.slice A n c) l ∧ Below w.heap.size w w' := by
  subst hn
  refine (refDecode_any s w (by omega)).mono ?_
  rintro e w' ⟨h1, h2⟩
  rw [hd] at h1
  obtain ⟨v, rfl, hown⟩ := h1
  have hA := Arr.of_own hown
  obtain ⟨A, c, rfl⟩ := hA.form
  exact ⟨A, c, rfl, hA, h2⟩

set_option maxRecDepth 20000 in
set_option maxHeartbeats 6400000 in
theorem translitStays_v (A : Option Addr) (n c : Nat) (t : List RuleL) (s : List UInt8) (w : World) (hS : Ready7 w) (h : Given w A n c t) (hl : s.length ≤ 100000000) :
    Calls Tryd.prog 9 #[.slice A n c, .string (str s)] w fun e w' => e = .returned (.bool true) ∧ Below w.heap.size w w' := by
  have HG := Lib.hid h
  have hzs : (str s).size = s.length := rfl
  obtain ⟨bd, hbd⟩ : ∃ q, (decR s).isSome = q := ⟨_, rfl⟩
  have HBd := Lib.hid hbd
  cases hf : fewL t with
  | false =>
    have HF := Lib.hid hf
    clear hf h hbd
    go_enter Tryd.func9, Tryd.ntmps9
    go_wp2_with fail
    refine (awake7_any _ hS).mono ?_
    rintro e w1 ⟨rfl, k1⟩
    go_wp2_with fail
    refine (decB7_at w s bd _ k1 hl HBd.out).mono ?_
    rintro e w2 ⟨A2, n2, c2, rfl, k2⟩
    go_wp2_with fail
    refine (few7_any A n c t _ (HG.out.up k2)).mono ?_
    rintro e w3 ⟨rfl, rfl⟩
    rw [HF.out]
    go_wp2
    go_ret
    exact ⟨rfl, k2⟩
  | true =>
    have HF := Lib.hid hf
    have hT := h.table hf
    have HT := Lib.hid hT
    have HLen := Lib.hid h.arr.len
    by_cases gs : 40 < s.length
    · have ts : decide (40 < (s.length : Int)) = true := by simp; omega
      clear hf h hT hbd
      go_enter Tryd.func9, Tryd.ntmps9
      go_wp2_with fail
      refine (awake7_any _ hS).mono ?_
      rintro e w1 ⟨rfl, k1⟩
      go_wp2_with fail
      refine (decB7_at w s bd _ k1 hl HBd.out).mono ?_
      rintro e w2 ⟨A2, n2, c2, rfl, k2⟩
      go_wp2_with fail
      refine (few7_any A n c t _ (HG.out.up k2)).mono ?_
      rintro e w3 ⟨rfl, rfl⟩
      rw [HF.out]
      go_wp2
      go_ret
      exact ⟨rfl, k2⟩
    have ts : decide (40 < (s.length : Int)) = false := by simp; omega
    have hls : s.length ≤ 5000 := by omega
    cases hd : decR s with
    | none =>
      rw [hd] at hbd
      have HB2 : Hid (bd = false) := Lib.hid hbd.symm
      clear hf h hT hbd hd
      go_enter Tryd.func9, Tryd.ntmps9
      go_wp2_with fail
      refine (awake7_any _ hS).mono ?_
      rintro e w1 ⟨rfl, k1⟩
      go_wp2_with fail
      refine (decB7_at w s bd _ k1 hl HBd.out).mono ?_
      rintro e w2 ⟨A2, n2, c2, rfl, k2⟩
      rw [HB2.out]
      go_wp2_with fail
      refine (few7_any A n c t _ (HG.out.up k2)).mono ?_
      rintro e w3 ⟨rfl, rfl⟩
      rw [HF.out]
      go_wp2
      go_ret
      exact ⟨rfl, k2⟩
    | some L =>
      obtain ⟨nL_, hnL⟩ : ∃ q, L.length = q := ⟨_, rfl⟩
      have HD := Lib.hid fun W => decL7_any s L nL_ W hl hd hnL
      have hnl : nL_ ≤ 5000 := by have := dec_len hd; omega
      have HNL := Lib.hid hnL
      obtain ⟨v, hv⟩ : ∃ q, validL t = q := ⟨_, rfl⟩
      have HV := Lib.hid hv
      cases v with
      | false =>
        clear hf h hT hbd hd hnL hv
        go_enter Tryd.func9, Tryd.ntmps9
        go_wp2_with fail
        refine (awake7_any _ hS).mono ?_
        rintro e w1 ⟨rfl, k1⟩
        go_wp2_with fail
        refine (HD.out _).mono ?_
        rintro e w2 ⟨A2, c2, rfl, hA2, k2⟩
        have p2 := below_next k1 k2
        go_wp2_with fail
        refine (few7_any A n c t _ (HG.out.up p2)).mono ?_
        rintro e w3 ⟨rfl, rfl⟩
        rw [HF.out]
        go_wp2_with fail
        refine (refValid7_at w A n c t _ HT.out p2 false HV.out).mono ?_
        rintro e w4 ⟨rfl, k4⟩
        go_wp2
        go_ret
        exact ⟨rfl, k4⟩
      | true =>
        have hsides := Lib.hid (valid_of hv).sides
        have HSt : Hid ((∀ x ∈ t, ∀ m, decR x.1 = some m → ∀ c ∈ m, ∀ d ∈ L, c ≠ d) → toL t s = s ∧ coversL t s = decide (s = [])) := Lib.hid fun hno => stays_to hv hd hno
        have HSh := Lib.hid fun x hx => (few_of hf).2 x hx
        have hn90 : n ≤ 90 := by have := HLen.out; have := (few_of hf).1; omega
        clear hf h hT hbd hd hnL hv
        go_enter Tryd.func9, Tryd.ntmps9
        go_wp2_with fail
        refine (awake7_any _ hS).mono ?_
        rintro e w1 ⟨rfl, k1⟩
        go_wp2_with fail
        refine (HD.out _).mono ?_
        rintro e w2 ⟨A2, c2, rfl, hA2, k2⟩
        have p2 := below_next k1 k2
        go_wp2_with fail
        refine (few7_any A n c t _ (HG.out.up p2)).mono ?_
        rintro e w3 ⟨rfl, rfl⟩
        rw [HF.out]
        go_wp2_with fail
        refine (refValid7_any A n c t _ (HT.out.up p2)).mono ?_
        rintro e w4 ⟨he4, k4⟩
        rw [HV.out] at he4
        obtain rfl := he4
        have p4 := below_next p2 k4
        have hA4 := hA2.up k4
        have hT4 := HT.out.up p4
        have HT4 := Lib.hid hT4
        have HS4 := Lib.hid (hS.below p4)
        clear hA2
        go_wp2
        go_loopw [42] (fun i wr => ∃ k : Nat, k ≤ n ∧ i = .int .i64 (k : Int) ∧ Hid (∀ x ∈ t.take k, ∀ m, decR x.1 = some m → ∀ c ∈ m, ∀ d ∈ L, c ≠ d) ∧ Below w4.heap.size w4 wr) (fun i _ => n - (intOf i).toNat)
        case atStart => exact ⟨0, by omega, rfl, Lib.hid (by simp), Below.refl _ _⟩
        case round =>
          obtain ⟨k, hk, rfl, HK, hb⟩ := hrel
          by_cases hlt : k < n
          · have i1 : decide ((k : Int) < (n : Int)) = true := by simp; omega
            have kz : (k : Int) < (n : Int) := by omega
            obtain ⟨b0, o0, rfl, hB0, hc0⟩ := hT4.cells (by omega)
            obtain ⟨x, hx⟩ : ∃ a, t[k]? = some a := ⟨_, List.getElem?_eq_getElem (by have := HLen.out; omega)⟩
            have hxm := List.mem_of_getElem? hx
            have hxs := HSh.out x hxm
            have d0 := (hb.cell (p := ⟨b0, o0 + k * 2, none⟩) hB0).trans (hc0 k x hx).1
            have d1 := (hb.cell (p := ⟨b0, o0 + k * 2 + 1, none⟩) hB0).trans (hc0 k x hx).2
            obtain ⟨m, hm, _, _, _, _⟩ := side_enc (hsides.out x hxm).1
            obtain ⟨nm, hnm⟩ : ∃ q, m.length = q := ⟨_, rfl⟩
            have HDx := Lib.hid fun W => decL7_any x.1 m nm W (by omega) hm hnm
            have hnm5 : nm ≤ 5000 := by have := dec_len hm; omega
            have HNM := Lib.hid hnm
            have HN : Hid ((∀ c ∈ m, ∀ d ∈ L, c ≠ d) → ∀ y ∈ t.take (k + 1), ∀ m', decR y.1 = some m' → ∀ c ∈ m', ∀ d ∈ L, c ≠ d) := Lib.hid fun hno y hy m' hm' => by
              rw [take_next hx] at hy
              rcases List.mem_append.1 hy with hy | hy
              · exact HK.out y hy m' hm'
              · rw [List.mem_singleton.1 hy, hm] at hm'
                rw [← Option.some.inj hm']
                exact hno
            have hb0 := hb.alloc hb.size (.cells #[.string (str x.1), .string (str x.2)] 34)
            clear hc0 hx hxm hm hnm
            go_wp2_with fail
            refine (HDx.out _).mono ?_
            rintro e w5 ⟨A5, c5, rfl, hA5, k5⟩
            have p5 : Below w4.heap.size w4 w5 := hb0.trans (k5.mono (by simp; have := hb.size; omega))
            have hA6 := hA4.up p5
            go_wp2
            go_loopw [54] (fun i wi => ∃ j : Nat, j ≤ nm ∧ i = .int .i64 (j : Int) ∧ Hid (∀ c ∈ m.take j, ∀ d ∈ L, c ≠ d) ∧ w5 = wi) (fun i _ => nm - (intOf i).toNat)
            case atStart => exact ⟨0, by omega, rfl, Lib.hid (by simp), rfl⟩
            case round =>
              obtain ⟨j, hj, rfl, HJ, rfl⟩ := hrel
              by_cases hjl : j < nm
              · have i2 : decide ((j : Int) < (nm : Int)) = true := by simp; omega
                have jz : (j : Int) < (nm : Int) := by omega
                obtain ⟨b5, o5, rfl, hB5, hc5⟩ := hA5.some_ (by omega)
                obtain ⟨ch, hch⟩ : ∃ a, m[j]? = some a := ⟨_, List.getElem?_eq_getElem (by have := HNM.out; omega)⟩
                have e0 := hc5 j ch hch
                simp only [nv] at e0
                have HJ2 : Hid ((∀ d ∈ L, ch ≠ d) → ∀ c ∈ m.take (j + 1), ∀ d ∈ L, c ≠ d) := Lib.hid fun hno c hc => by
                  rw [take_next hch] at hc
                  rcases List.mem_append.1 hc with hc | hc
                  · exact HJ.out c hc
                  · rw [List.mem_singleton.1 hc]; exact hno
                clear hc5 hch
                go_wp2
                go_loopw [60] (fun i wi => ∃ q : Nat, q ≤ nL_ ∧ i = .int .i64 (q : Int) ∧ Hid (∀ d ∈ L.take q, ch ≠ d) ∧ w5 = wi) (fun i _ => nL_ - (intOf i).toNat)
                case atStart => exact ⟨0, by omega, rfl, Lib.hid (by simp), rfl⟩
                case round =>
                  obtain ⟨q, hq, rfl, HQ, rfl⟩ := hrel
                  by_cases hql : q < nL_
                  · have i3 : decide ((q : Int) < (nL_ : Int)) = true := by simp; omega
                    have qz : (q : Int) < (nL_ : Int) := by omega
                    obtain ⟨b6, o6, rfl, hB6, hc6⟩ := hA6.some_ (by omega)
                    obtain ⟨dh, hdh⟩ : ∃ a, L[q]? = some a := ⟨_, List.getElem?_eq_getElem (by have := HNL.out; omega)⟩
                    have f0 := hc6 q dh hdh
                    simp only [nv] at f0
                    by_cases hcd : ch = dh
                    · have tq : ((ch : Int) == (dh : Int)) = true := eqb_true (by omega)
                      clear hc6 hdh hcd
                      go_wp2
                      go_ret
                      exact ⟨rfl, below_next p4 p5⟩
                    · have tq : ((ch : Int) == (dh : Int)) = false := eqb_false (by omega)
                      have HQ2 : Hid (∀ d ∈ L.take (q + 1), ch ≠ d) := Lib.hid fun d hd => by
                        rw [take_next hdh] at hd
                        rcases List.mem_append.1 hd with hd | hd
                        · exact HQ.out d hd
                        · rw [List.mem_singleton.1 hd]; exact hcd
                      clear hc6 hdh hcd
                      go_wp2
                      go_roundw
                      case rel => exact ⟨q + 1, by omega, by go_num, HQ2, trivial⟩
                      case measure => simp [intOf]; omega
                  · obtain rfl : q = nL_ := by omega
                    have HJ3 : Hid (∀ c ∈ m.take (j + 1), ∀ d ∈ L, c ≠ d) := Lib.hid (HJ2.out (by have := HQ.out; rwa [List.take_of_length_le (by rw [HNL.out]; omega)] at this))
                    go_wp2
                    go_roundw
                    case rel => exact ⟨j + 1, by omega, by go_num, HJ3, trivial⟩
                    case measure => simp [intOf]; omega
              · obtain rfl : j = nm := by omega
                have HN2 := Lib.hid (HN.out (by have := HJ.out; rwa [List.take_of_length_le (by rw [HNM.out]; omega)] at this))
                go_wp2
                go_roundw
                case rel => exact ⟨k + 1, by omega, by go_num, HN2, p5⟩
                case measure => simp [intOf]; omega
          · obtain rfl : k = n := by omega
            have hst := HSt.out (by have := HK.out; rwa [List.take_of_length_le (by rw [HLen.out]; omega)] at this)
            have HTo := Lib.hid hst.1
            have HCo := Lib.hid hst.2
            have HT5 := Lib.hid (HT4.out.up hb)
            have qs : ((str s).toList == (str s).toList) = true := beq_self_eq_true _
            clear hst
            by_cases h0 : s = []
            · have z0 : (str s).toList = [] := by rw [str_toList]; exact h0
              have z1 : ((str s).toList == []) = true := by rw [z0]; rfl
              have HCo2 : Hid (coversL t s = true) := Lib.hid (by rw [HCo.out, decide_eq_true h0])
              clear h0
              go_wp2_with fail
              refine (own7_any A k c t _ HT5.out).mono ?_
              rintro e w6 ⟨A6, c6, rfl, T6, k6⟩
              have p6 := below_next hb k6
              have HS6 := Lib.hid (HS4.out.below p6)
              have HO6 := Lib.hid T6
              clear T6
              go_wp2_with fail
              refine (prTo7_at w6 A6 k c6 t s _ HS6.out HO6.out (Below.refl _ _) hls s HTo.out).mono ?_
              rintro e w7 ⟨rfl, k7⟩
              go_wp2_with fail
              refine (prCovers7_at w6 A6 k c6 t s _ HS6.out HO6.out k7 hls true HCo2.out).mono ?_
              rintro e w8 ⟨rfl, k8⟩
              go_wp2
              go_ret
              exact ⟨rfl, below_next p4 (below_next p6 k8)⟩
            · have z0 : ¬ (str s).toList = [] := by rw [str_toList]; exact h0
              have z1 := strs_ne h0
              have z2 := strs_some h0
              have HCo2 : Hid (coversL t s = false) := Lib.hid (by rw [HCo.out, decide_eq_false h0])
              clear h0
              go_wp2_with fail
              refine (own7_any A k c t _ HT5.out).mono ?_
              rintro e w6 ⟨A6, c6, rfl, T6, k6⟩
              have p6 := below_next hb k6
              have HS6 := Lib.hid (HS4.out.below p6)
              have HO6 := Lib.hid T6
              clear T6
              go_wp2_with fail
              refine (prTo7_at w6 A6 k c6 t s _ HS6.out HO6.out (Below.refl _ _) hls s HTo.out).mono ?_
              rintro e w7 ⟨rfl, k7⟩
              go_wp2_with fail
              refine (prCovers7_at w6 A6 k c6 t s _ HS6.out HO6.out k7 hls false HCo2.out).mono ?_
              rintro e w8 ⟨rfl, k8⟩
              go_wp2
              go_ret
              exact ⟨rfl, below_next p4 (below_next p6 k8)⟩

end Go.Proofs.YtomkipddbmnipaaDoor
