/-
  The program's decomposed, encode, Decompose, Marks.
  The library's DeleteFunc over the program's isMark, and Equal; the program's Strip, Marks, Equal.
  The program's Strip, Marks, Equal.
  Words for slices of structs, over any program and any numbering: such a slice as a list, rows of the call's own, append.
-/
import Derived.Test.YtafnjbmeponobaaGreatDoorPkAU
import Derived.Lib.SliceRun
import Derived.Test.YtafnjbmeponobaaGreatDoorWords
namespace Go.Proofs.YtafnjbmeponobaaGreatDoor
open Go.RowKit

set_option maxRecDepth 100000 in
set_option maxHeartbeats 3200000 in
theorem sortMarks_none (A : Option Addr) (c : Nat) (w : World) :
    Calls Tryz.prog 100 #[.slice A 0 c] w fun e w' => e = .returned (.tuple #[]) ∧ w' = w := by
  have HSS := Lib.hid (fun W => sortStable_none A c W)
  go_enter Tryz.func100, Tryz.ntmps100
  go_wp2
  go_loopw [3, 4, 5, 8] (fun s3 _ _ s8 wr => s3 = .int .i64 0 ∧ s8 = .int .i64 0 ∧ wr = w) (fun _ _ _ _ _ => 0)
  case atStart => exact ⟨rfl, rfl, rfl⟩
  case round =>
    obtain ⟨rfl, rfl, rfl⟩ := hrel
    go_wp2_with fail
    refine (HSS.out _).mono ?_
    rintro e w3 ⟨rfl, rfl⟩
    go_wp2
    go_end0
    exact ⟨rfl, rfl⟩

/-- sortMarks over a row of the call's own. -/
theorem sortMarks_own (base : Nat) (v : Value) (D : List Nat) (w : World) (hS : Spans w) (hb0 : 1 < base) (hbw : base ≤ w.heap.size) (hD : D.length ≤ 1000000) (hown : w.ownsRow base 3 1 v D.length (D.map nv)) :
    Calls Tryz.prog 100 #[v] w fun e w' => e = .returned (.tuple #[]) ∧ w'.ownsRow base 3 1 v (sortB clM [] D).reverse.length ((sortB clM [] D).reverse.map nv) ∧ Below base w w' := by
  by_cases h0 : D.length = 0
  · have hA := Arr.of_own hown
    obtain ⟨A, c, rfl⟩ := hA.form
    have hnil := List.length_eq_zero_iff.1 h0
    subst hnil
    refine (sortMarks_none A c w).mono ?_
    rintro e w' ⟨rfl, rfl⟩
    exact ⟨rfl, hown, Below.refl _ _⟩
  · obtain ⟨g, cap, cur, rfl, k1, k2, k3, k4, k5, k6⟩ := own_open hown (by omega)
    refine (sortMarks_row g D.length cap D w hS (by omega) rfl k3 hD ⟨cur, k2, k5, k6⟩).mono ?_
    rintro e w' ⟨rfl, ⟨cu, h1, h2, h3⟩, hg⟩
    have hl : (sortB clM [] D).reverse.length = D.length := by rw [List.length_reverse, sort_len]; simp
    rw [hl] at h3
    exact ⟨rfl, own_M hl k1 h1 k3 k4 h2 h3, below_grown (Below.refl _ _) hg hbw fun g' hg' => (by cases hg'; exact k1)⟩

set_option maxRecDepth 100000 in
set_option maxHeartbeats 6400000 in
theorem prDecom_any (s : List UInt8) (w : World) (hS : Spans w) (hlen : s.length ≤ 10000) :
    Calls Tryz.prog 81 #[.string (str s)] w fun e w' => ∃ v, e = .returned (.tuple #[v, .bool (decR s).isSome]) ∧ w'.ownsRow w.heap.size 3 1 v (dcF (nL s)).length ((dcF (nL s)).map nv) ∧ Below w.heap.size w w' := by
  have HD := Lib.hid (prDecode_any s w hS hlen)
  have HS := Lib.hid hS
  obtain ⟨F, hF⟩ : ∃ F, dcF (nL s) = F := ⟨_, rfl⟩
  rw [hF]
  have HF := Lib.hid hF
  obtain ⟨R, hR⟩ : ∃ R, (decR s).isSome = R := ⟨_, rfl⟩
  rw [hR]
  have HR := Lib.hid hR
  clear hF hR hS
  go_enter Tryz.func81, Tryz.ntmps81
  go_wp2_with fail
  refine HD.out.mono ?_
  rintro e w1 ⟨hd, hb1⟩
  obtain ⟨A, n, cp, b, rfl, hcase⟩ := hd.form
  rcases hcase with ⟨rfl, l, h1, h2, hA, _⟩ | ⟨rfl, h1, rfl, rfl, rfl⟩
  · have HL : Hid (nL s = l) := Lib.hid (by unfold nL; rw [h1]; rfl)
    have HRt : Hid (R = true) := Lib.hid (by rw [← HR.out, h1]; rfl)
    have HLn : Hid (l.length = n) := Lib.hid h2.symm
    have HOK : Hid (∀ c ∈ l, okC c) := Lib.hid (enc_dec h1).2
    have hn : n ≤ 10000 := by have := dec_len h1; omega
    have hmk : ∀ W, (Instr.makeSlice 34 (.int .i64 0) (.int .i64 (n : Int))).run Tryz.prog W = .ok (.slice (some ⟨W.heap.size, 0, none⟩) 0 n) (W.alloc (.cells (madeOf (.int .i64 0) n) 3)) := fun W => make_ints 0 n (Nat.zero_le _) (by omega) W
    have hw1 : 1 < w1.heap.size := (HS.out.below hb1).lt
    have HS1 := Lib.hid (HS.out.below hb1)
    clear hd h1 h2
    go_wp2
    go_loopw [6, 8, 21] (fun v _ i wr => ∃ (k : Nat) (O : List Nat), k ≤ n ∧ i = .int .i64 (k : Int) ∧ O.length ≤ 2 * k ∧ Hid (O = (l.take k).flatMap wholeR) ∧ wr.ownsRow w1.heap.size 3 1 v O.length (O.map nv) ∧ Below w1.heap.size w1 wr) (fun _ _ i _ => n - (intOf i).toNat)
    case atStart =>
      refine ⟨0, [], by omega, rfl, by simp, Lib.hid rfl, ?_, below_new (Below.refl _ _) _⟩
      have h := own_box (base := w1.heap.size) (n := 0) (Box.made w1 3 (madeOf (.int .i64 0) n)) (madeOf_size _ _) (Nat.zero_le n) (by unfold maxLen; omega) (Nat.le_refl _)
      exact h
    case round =>
      obtain ⟨k, O, hk, rfl, hOl, HO, hown, hb⟩ := hrel
      have hbs := hb.size
      by_cases hlt : k < n
      · have t1 : decide ((k : Int) < (n : Int)) = true := by simp; omega
        obtain ⟨b0, o0, rfl, hB0, hc0⟩ := hA.some_ (by omega)
        obtain ⟨x, hx⟩ := get_some (l := l) (i := k) (by have := HLn.out; omega)
        have d0 := (hb.cell (p := ⟨b0, o0 + k, none⟩) hB0).trans (hc0 k x hx)
        simp only [nv] at d0
        have kz : (k : Int) < (n : Int) := by omega
        have HP := Lib.hid (prParts_any w1.heap.size _ O x wr (HOK.out x (List.mem_of_getElem? hx)) hbs (by omega) hown)
        have HX : Hid (O ++ wholeR x = (l.take (k + 1)).flatMap wholeR) := Lib.hid (by rw [take_next hx, List.flatMap_append, HO.out]; simp)
        have hX2 : (O ++ wholeR x).length ≤ 2 * (k + 1) := by rw [List.length_append]; have := whole_len x; omega
        obtain ⟨O2, hO2⟩ : ∃ O2, O ++ wholeR x = O2 := ⟨_, rfl⟩
        rw [hO2] at HP HX hX2
        clear hc0 hx hO2 hown
        go_wp2_with fail
        refine HP.out.mono ?_
        rintro e w2 ⟨v2, rfl, hown2, hb2⟩
        go_wp2
        go_roundw
        case rel => exact ⟨k + 1, O2, by omega, by go_num, hX2, HX, hown2, hb.trans hb2⟩
        case measure => simp [intOf]; omega
      · obtain rfl : k = n := by omega
        have HO2 : Hid (F = (sortB clM [] O).reverse) := Lib.hid (by
          rw [← HF.out, HL.out, HO.out, List.take_of_length_le (by rw [HLn.out]; exact Nat.le_refl _)]
          rfl)
        have HSM := Lib.hid (sortMarks_own w1.heap.size _ O wr (HS1.out.below hb) hw1 hbs (by omega) hown)
        rw [← HO2.out] at HSM
        clear hown
        go_wp2_with fail
        refine HSM.out.mono ?_
        rintro e w2 ⟨rfl, hown2, hb2⟩
        go_wp2
        go_ret2
        rw [HRt.out]
        exact ⟨_, rfl, own_less hb1.size hown2, below_next hb1 (hb.trans hb2)⟩
  · have HE : Hid (F = [] ∧ R = false) := Lib.hid ⟨by rw [← HF.out]; unfold nL; rw [h1]; rfl, by rw [← HR.out, h1]; rfl⟩
    clear hd h1
    go_wp2
    go_ret2
    rw [HE.out.1, HE.out.2]
    exact ⟨_, rfl, World.ownsRow_nil _ _ _ _, hb1⟩

theorem prEnc_own (base : Nat) (v : Value) (l : List Nat) (w : World) (hS : Spans w) (hown : w.ownsRow base 3 1 v l.length (l.map nv)) (hok : ∀ c ∈ l, okC c) (hl : l.length ≤ 10000) :
    Calls Tryz.prog 101 #[v] w fun e w' => e = .returned (.tuple #[.string (str (encL l)), .bool true]) ∧ Below w.heap.size w w' := by
  have hA := Arr.of_own hown
  obtain ⟨A, c, rfl⟩ := hA.form
  refine (prEncode_any A _ c _ w hS hA.int hl).mono ?_
  rintro e w' ⟨h1, h2⟩
  rw [encR_nats hok] at h1
  exact ⟨h1, h2⟩

set_option maxRecDepth 20000 in
set_option maxHeartbeats 1600000 in
theorem prEncS_any (base : Nat) (v : Value) (l : List Nat) (w : World) (hS : Spans w) (hown : w.ownsRow base 3 1 v l.length (l.map nv)) (hok : ∀ c ∈ l, okC c) (hl : l.length ≤ 10000) :
    Calls Tryz.prog 82 #[v] w fun e w' => e = .returned (.string (str (encL l))) ∧ Below w.heap.size w w' := by
  have HE := Lib.hid (prEnc_own base v l w hS hown hok hl)
  clear hown
  go_enter Tryz.func82, Tryz.ntmps82
  go_wp2_with fail
  refine HE.out.mono ?_
  rintro e w1 ⟨rfl, k1⟩
  go_wp2
  go_ret
  exact ⟨rfl, k1⟩

theorem dcL_len (s : List UInt8) (h : s.length ≤ 5000) : (dcF (nL s)).length ≤ 10000 := by
  have h1 := dcF_len (nL s)
  have h2 := nL_len s
  omega

set_option maxRecDepth 20000 in
set_option maxHeartbeats 1600000 in
theorem prDecompose_s (s : List UInt8) (w : World) (hS : Spans w) (hlen : s.length ≤ 5000) :
    Calls Tryz.prog 47 #[.string (str s)] w fun e w' => e = .returned (.string (str (nD s))) ∧ Below w.heap.size w w' := by
  have HD := Lib.hid (prDecom_any s w hS (by omega))
  have HS := Lib.hid hS
  have HL := Lib.hid (dcL_len s hlen)
  obtain ⟨R, hR⟩ : ∃ R, nD s = R := ⟨_, rfl⟩
  rw [hR]
  have HR : Hid (encL (dcF (nL s)) = R) := Lib.hid hR
  have HOK := Lib.hid (dcF_ok s)
  obtain ⟨l, hl⟩ : ∃ l, dcF (nL s) = l := ⟨_, rfl⟩
  rw [hl] at HD HR HOK HL
  clear hR hl hS
  go_enter Tryz.func47, Tryz.ntmps47
  go_wp2_with fail
  refine HD.out.mono ?_
  rintro e w1 ⟨v, rfl, hown, hb1⟩
  have HE := Lib.hid (prEncS_any _ v l w1 (HS.out.below hb1) hown HOK.out HL.out)
  clear hown
  go_wp2_with fail
  refine HE.out.mono ?_
  rintro e w2 ⟨rfl, hb2⟩
  go_wp2
  go_ret
  rw [HR.out]
  exact ⟨rfl, below_next hb1 hb2⟩

end Go.Proofs.YtafnjbmeponobaaGreatDoor

namespace Go.Proofs.YtafnjbmeponobaaGreatDoor
open Go.RowKit

theorem grown_cells {w : World} {g : Nat} : ∀ (vs : List Value) (o : Nat) (w' : World), w.grownBy w' (some g) → w.grownBy (w'.setCells g o vs) (some g)
  | [], _, _, h => h
  | v :: r, o, w', h => by
    rw [World.setCells]
    exact grown_cells r (o + 1) _ (grown_set h o v)
theorem box_cells {g : Nat} {t : TypeId} : ∀ (vs : List Value) (o : Nat) (w : World) (cs : Array Value), Box w g t cs → ∃ cs', Box (w.setCells g o vs) g t cs' ∧ cs'.size = cs.size ∧ cs'.toList.take o = cs.toList.take o
  | [], _, _, cs, h => ⟨cs, h, rfl, rfl⟩
  | v :: r, o, w, cs, h => by
    obtain ⟨cs', h1, h2, h3⟩ := box_cells r (o + 1) _ _ (h.put o v)
    rw [World.setCells]
    refine ⟨cs', h1, by rw [h2]; simp, ?_⟩
    have h4 := congrArg (List.take o) h3
    rw [List.take_take, List.take_take, Nat.min_eq_left (by omega), Array.toList_setIfInBounds, List.take_set, List.set_eq_of_length_le (by rw [List.length_take]; omega)] at h4
    exact h4

/-- Where the first mark stands. -/
def MarkAt (l : List Nat) (k : Nat) : Prop := (∃ x, l[k]? = some x ∧ isM x = true) ∧ ∀ c ∈ l.take k, isM c = false

theorem set_row {cu : Array Value} {N : Nat} {K R : List Nat} {x m i : Nat} (ht : cu.toList.take N = (K ++ m :: R).map nv) (hi : i = K.length) : (cu.setIfInBounds i (nv x)).toList.take N = (K ++ x :: R).map nv := by
  subst hi
  rw [Array.toList_setIfInBounds, List.take_set, ht]
  have h := set_mid (P := K.map nv) (R := R.map nv) (x := nv m) (y := nv x)
  rw [List.length_map] at h
  rw [List.map_append, List.map_cons, h, List.map_append, List.map_cons]

end Go.Proofs.YtafnjbmeponobaaGreatDoor

namespace Go.Proofs.YtafnjbmeponobaaGreatDoor
open Go.RowKit

set_option maxRecDepth 20000 in
set_option maxHeartbeats 1600000 in
theorem slEqual_any (A : Option Addr) (n c : Nat) (A' : Option Addr) (n' c' : Nat) (l l' : List Nat) (w : World) (hA : Arr nv w w.heap.size (.slice A n c) l) (hA' : Arr nv w w.heap.size (.slice A' n' c') l') (hn : n ≤ 1000000) (hn' : n' ≤ 1000000) :
    Calls Tryz.prog 79 #[.slice A n c, .slice A' n' c'] w fun e w' => e = .returned (.bool (decide (l = l'))) ∧ ∃ q, w' = w.drewN q := by
  have HL := Lib.hid hA.len
  have HL' := Lib.hid hA'.len
  obtain ⟨R, hR⟩ : ∃ R, decide (l = l') = R := ⟨_, rfl⟩
  rw [hR]
  have HR := Lib.hid hR
  clear hR
  by_cases hnn : n = n'
  · subst hnn
    have t0 : ((n : Int) != (n : Int)) = false := by simp
    go_enter Tryz.func79, Tryz.ntmps79
    go_wp2
    go_loopw [5, 13] (fun _ i wr => ∃ k q : Nat, k ≤ n ∧ i = .int .i64 (k : Int) ∧ Hid (l.take k = l'.take k) ∧ wr = w.drewN q) (fun _ i _ => n - (intOf i).toNat)
    case atStart => exact ⟨0, 0, by omega, rfl, Lib.hid rfl, rfl⟩
    case round =>
      obtain ⟨k, q, hk, rfl, HT, rfl⟩ := hrel
      by_cases hlt : k < n
      · have i1 : decide ((k : Int) < (n : Int)) = true := by simp; omega
        obtain ⟨b0, o0, rfl, hB0, hc0⟩ := hA.some_ (by omega)
        obtain ⟨b1, o1, rfl, hB1, hc1⟩ := hA'.some_ (by omega)
        obtain ⟨x, hx⟩ := get_some (l := l) (i := k) (by have := HL.out; omega)
        obtain ⟨y, hy⟩ := get_some (l := l') (i := k) (by have := HL'.out; omega)
        have d0 := hc0 k x hx
        have d1 := hc1 k y hy
        simp only [nv] at d0 d1
        have kz : (k : Int) < (n : Int) := by omega
        by_cases hxy : x = y
        · have t1 : ((x : Int) != (y : Int)) = false := by rw [hxy]; simp
          have HT2 : Hid (l.take (k + 1) = l'.take (k + 1)) := Lib.hid (by rw [take_next hx, take_next hy, HT.out, hxy])
          clear hc0 hc1 hx hy hxy
          go_wp2
          go_quiet (fail)
          go_wp2
          go_roundw
          case rel => exact ⟨k + 1, q + nq, by omega, by go_num, HT2, by first | rfl | rw [World.drewN_drewN]⟩
          case measure => simp [intOf]; omega
        · have t1 : ((x : Int) != (y : Int)) = true := by simp; omega
          have HE : Hid (R = false) := Lib.hid (by
            rw [← HR.out]
            refine decide_eq_false fun e => hxy ?_
            rw [e, hy] at hx
            exact (Option.some.inj hx).symm)
          clear hc0 hc1 hx hy hxy
          go_wp2
          go_quiet (fail)
          go_wp2
          go_ret
          rw [HE.out]
          exact ⟨rfl, by first | exact ⟨_, World.drewN_drewN _ _ _⟩ | exact ⟨_, rfl⟩⟩
      · obtain rfl : k = n := by omega
        have HE : Hid (R = true) := Lib.hid (by
          rw [← HR.out]
          have h := HT.out
          rw [List.take_of_length_le (by rw [HL.out]; omega), List.take_of_length_le (by rw [HL'.out]; omega)] at h
          exact decide_eq_true h)
        go_wp2
        go_ret
        rw [HE.out]
        exact ⟨rfl, _, rfl⟩
  · have t0 : ((n : Int) != (n' : Int)) = true := by simp; omega
    have HE : Hid (R = false) := Lib.hid (by
      rw [← HR.out]
      refine decide_eq_false fun e => hnn ?_
      rw [← HL.out, ← HL'.out, e])
    go_enter Tryz.func79, Tryz.ntmps79
    go_wp2
    go_ret
    rw [HE.out]
    exact ⟨rfl, 0, rfl⟩

theorem nEq_dc {s t : List UInt8} (h1 : (decR s).isSome = true) (h2 : (decR t).isSome = true) : nEq s t = decide (dcF (nL s) = dcF (nL t)) := by
  unfold nEq
  rw [h1, h2]
  by_cases h : dcF (nL s) = dcF (nL t)
  · rw [decide_eq_true h]
    have : nD s = nD t := by unfold nD; rw [h]
    rw [decide_eq_true this]
    rfl
  · rw [decide_eq_false h]
    have : ¬ nD s = nD t := fun e => h (nD_inj e)
    rw [decide_eq_false this]
    rfl

end Go.Proofs.YtafnjbmeponobaaGreatDoor

namespace Go.Proofs.YtafnjbmeponobaaGreatDoor
open Go.RowKit

/-- In w, the slice v reads as the list xs: each element takes sz cells that hold its values. -/
def SArr {α : Type} (sz : Nat) (val : α → List Value) (w : World) (B : Nat) (v : Value) (xs : List α) : Prop :=
  (v = .slice none 0 0 ∧ xs = []) ∨ ∃ (a : Addr) (c : Nat), v = .slice (some a) xs.length c ∧ xs.length ≤ c ∧ (0 < xs.length → a.block < B) ∧ ∀ i u, xs[i]? = some u → ∀ j x, (val u)[j]? = some x → w.cell? (a.add (i * sz + j)) = some x

section
variable {α : Type} {sz : Nat} {val : α → List Value}
theorem SArr.nil_ (w : World) (B : Nat) : SArr sz val w B (.slice none 0 0) [] := .inl ⟨rfl, rfl⟩
theorem SArr.keep {w w' : World} {B : Nat} {v : Value} {xs : List α} (h : SArr sz val w B v xs) (hk : ∀ p : Addr, p.block < B → w'.cell? p = w.cell? p) : SArr sz val w' B v xs := by
  rcases h with h | ⟨a, c, e, hl, hb, hc⟩
  · exact .inl h
  · exact .inr ⟨a, c, e, hl, hb, fun i u hu j x hx => (hk _ (by rw [add_block]; exact hb (by have := (List.getElem?_eq_some_iff.1 hu).1; omega))).trans (hc i u hu j x hx)⟩
theorem SArr.below {w w' : World} {B : Nat} {v : Value} {xs : List α} (h : SArr sz val w B v xs) (hb : Below B w w') : SArr sz val w' B v xs := h.keep fun _ hp => hb.cell hp
theorem SArr.more {w : World} {B B' : Nat} {v : Value} {xs : List α} (h : SArr sz val w B v xs) (hB : B ≤ B') : SArr sz val w B' v xs := by
  rcases h with h | ⟨a, c, e, hl, hb, hc⟩
  · exact .inl h
  · exact .inr ⟨a, c, e, hl, fun h => by have := hb h; omega, hc⟩
theorem SArr.at_ {W w : World} {v : Value} {xs : List α} (h : SArr sz val W W.heap.size v xs) (hb : Below W.heap.size W w) : SArr sz val w W.heap.size v xs := h.below hb
theorem SArr.up {W w : World} {v : Value} {xs : List α} (h : SArr sz val W W.heap.size v xs) (hb : Below W.heap.size W w) : SArr sz val w w.heap.size v xs := (h.below hb).more hb.size
theorem SArr.form {w : World} {B : Nat} {v : Value} {xs : List α} (h : SArr sz val w B v xs) : ∃ A c, v = .slice A xs.length c := by
  rcases h with ⟨e, rfl⟩ | ⟨a, c, e, _⟩
  · exact ⟨_, _, e⟩
  · exact ⟨_, _, e⟩
theorem SArr.len {w : World} {B n c : Nat} {A : Option Addr} {xs : List α} (h : SArr sz val w B (.slice A n c) xs) : xs.length = n := by
  rcases h with ⟨e, rfl⟩ | ⟨a, c', e, _⟩
  · injection e with _ e2 _; exact e2.symm
  · injection e with _ e2 _; exact e2.symm
theorem SArr.cap {w : World} {B n c : Nat} {A : Option Addr} {xs : List α} (h : SArr sz val w B (.slice A n c) xs) : n ≤ c := by
  have hl := h.len
  rcases h with ⟨e, rfl⟩ | ⟨a, c', e, hc, _⟩
  · simp at hl; omega
  · injection e with _ _ e3; omega
/-- A slice with elements: its address written out. -/
theorem SArr.some_ {w : World} {B n c : Nat} {A : Option Addr} {xs : List α} (h : SArr sz val w B (.slice A n c) xs) (hv : ∀ x, (val x).length = sz) (hs : 0 < sz) (h0 : 0 < n) :
    ∃ b off, A = some ⟨b, off, none⟩ ∧ b < B ∧ ∀ i u, xs[i]? = some u → ∀ j x, (val u)[j]? = some x → w.cell? ⟨b, off + i * sz + j, none⟩ = some x := by
  have hl := h.len
  rcases h with ⟨e, _⟩ | ⟨a, c', e, _, hb, hc⟩
  · injection e with _ e2 _; omega
  · injection e with e1 e2 e3
    have hu := List.getElem?_eq_getElem (show 0 < xs.length by omega)
    have hx := List.getElem?_eq_getElem (l := val xs[0]) (i := 0) (by rw [hv]; exact hs)
    have hcell := hc 0 _ hu 0 _ hx
    obtain ⟨b, off, spot⟩ := a
    have hspot : spot = none := by simpa [Addr.add] using World.cell?_spot hcell
    subst hspot
    refine ⟨b, off, e1, hb (by omega), fun i u hu j x hx => ?_⟩
    have := hc i u hu j x hx
    rw [add_plain, ← Nat.add_assoc] at this
    exact this
theorem SArr.head {w : World} {B N n c : Nat} {A : Option Addr} {xs : List α} (h : SArr sz val w B (.slice A n c) xs) (hN : N ≤ n) : SArr sz val w B (.slice A N c) (xs.take N) := by
  have hn := h.len
  have hl : (xs.take N).length = N := by rw [List.length_take]; omega
  rcases h with ⟨e, rfl⟩ | ⟨a, c', e, hc, hb, hcell⟩
  · injection e with e1 e2 e3
    subst e1 e2 e3
    obtain rfl : N = 0 := by omega
    exact .inl ⟨rfl, rfl⟩
  · injection e with e1 e2 e3
    subst e1 e2 e3
    refine .inr ⟨a, c, by rw [hl], by omega, fun h0 => hb (by omega), fun i u hu j x hx => hcell i u ?_ j x hx⟩
    rw [List.getElem?_take] at hu
    split at hu
    · exact hu
    · cases hu
theorem flat_len (hv : ∀ x, (val x).length = sz) : ∀ xs : List α, (xs.flatMap val).length = xs.length * sz
  | [] => by simp
  | x :: xs => by rw [List.flatMap_cons, List.length_append, hv, flat_len hv xs, List.length_cons, Nat.add_mul, Nat.one_mul, Nat.add_comm]
theorem flat_at (hv : ∀ x, (val x).length = sz) : ∀ (xs : List α) (i : Nat) (u : α) (j : Nat) (x : Value), xs[i]? = some u → (val u)[j]? = some x → (xs.flatMap val)[i * sz + j]? = some x
  | [], i, u, j, x, h, _ => by simp at h
  | y :: xs, 0, u, j, x, h, hx => by
    simp at h
    subst h
    rw [List.flatMap_cons, Nat.zero_mul, Nat.zero_add, List.getElem?_append_left (List.getElem?_eq_some_iff.1 hx).1]
    exact hx
  | y :: xs, i + 1, u, j, x, h, hx => by
    rw [List.getElem?_cons_succ] at h
    have hle : sz ≤ (i + 1) * sz + j := Nat.le_trans (Nat.le_mul_of_pos_left sz (Nat.succ_pos i)) (Nat.le_add_right _ _)
    rw [List.flatMap_cons, List.getElem?_append_right (by rw [hv]; exact hle), hv]
    have e : (i + 1) * sz + j - sz = i * sz + j := by rw [Nat.add_mul, Nat.one_mul]; omega
    rw [e]
    exact flat_at hv xs i u j x h hx
theorem SArr.of_own {w : World} {base e : Nat} {v : Value} {xs : List α} (hv : ∀ x, (val x).length = sz) (h : w.ownsRow base e sz v xs.length (xs.flatMap val)) : SArr sz val w w.heap.size v xs := by
  rcases h.2 with ⟨hv', h0⟩ | ⟨g, cap, cur, hvv, _, hg, hc, _, hsz, htake⟩
  · exact .inl ⟨hv', List.length_eq_zero_iff.1 h0⟩
  · refine .inr ⟨_, cap, hvv, hc, fun _ => (Array.getElem?_eq_some_iff.1 hg).1, fun i u hu j x hx => ?_⟩
    rw [plain_add, Go.cell_of_row w g _ cur e (0, 0) hg]
    have h2 := flat_at hv xs i u j x hu hx
    rw [← htake, List.getElem?_take] at h2
    split at h2
    · rw [← Array.getElem?_toList]; exact h2
    · cases h2
theorem SArr.of_box {w : World} {g n c : Nat} {t : TypeId} {cs : Array Value} {xs : List α} (hb : Box w g t cs) (hn : xs.length = n) (hc : n ≤ c) (h : ∀ (i : Nat) (u : α), xs[i]? = some u → ∀ j x, (val u)[j]? = some x → cs[i * sz + j]? = some x) : SArr sz val w (g + 1) (.slice (some ⟨g, 0, none⟩) n c) xs := by
  subst hn
  exact .inr ⟨⟨g, 0, none⟩, c, rfl, hc, fun _ => by simp, fun i u hu j x hx => by rw [plain_add, hb.cell]; exact h i u hu j x hx⟩

/-- append(s, y) of one struct: the new element stands in a block of its own, the last one made. -/
theorem append_struct {P : Program} (t e : TypeId) (z : Value) (bytes : Nat) (ht : P.underlying t = some (.slice e)) (info : (P.info? e).map (fun i => (i.zero, i.size, i.bytes)) = some (some z, sz, bytes))
    (hzs : z.cells.size = sz) (hs0 : 0 < sz) (hbytes : bytes ≤ 100) (hv : ∀ x, (val x).length = sz) (hval : ∀ x, ∀ u ∈ val x, u.oneCell' = true)
    {ops : Array Oper} {rest : List Oper} {o : Oper} {a : Act} {Q : Exit → Act → World → Prop} (w : World) (hgd : o.guard = none) (s x : Operand)
    (ho : o.op = .call { callee := .builtin .append, args := #[s, x], argTypes := #[t, t] })
    (base : Nat) (v : Value) (xs : List α) (hs : a.eval s = v) (hown : w.ownsRow base e sz v xs.length (xs.flatMap val)) (y : α) (u : Array Value) (hu : u = (val y).toArray) (N : Nat) (hN : w.heap.size = N)
    (hx : a.eval x = .slice (some ⟨N, 0, none⟩) 1 1) (hlen : xs.length ≤ 1000000000000 - 1) (hbase : base ≤ w.heap.size)
    (h : ∀ v' w', w'.ownsRow base e sz v' (xs ++ [y]).length ((xs ++ [y]).flatMap val) → Below base w w' → wpList P ops Q rest (a.put o.dst v') w') : wpList P ops Q (o :: rest) a (w.alloc (.cells u e)) := by
  obtain ⟨i0, hi, hz0, hz1, hz2⟩ := info_parts info
  subst hu hN
  have hown1 : (w.alloc (.cells (val y).toArray e)).ownsRow base e sz v xs.length (xs.flatMap val) := own_keep_below hown ((Below.refl _ _).alloc (Nat.le_refl _) _)
  have hcell : ∀ j u, (val y)[j]? = some u → (w.alloc (.cells (val y).toArray e)).cell? ((⟨w.heap.size, 0, none⟩ : Addr).add j) = some u := by
    intro j u hu
    rw [plain_add, (Box.made w e (val y).toArray).cell]
    simpa using hu
  have hb0 : Below base w (w.alloc (.cells (val y).toArray e)) := (Below.refl _ _).alloc hbase _
  refine wpList_append_own (w := w.alloc (.cells (val y).toArray e)) hgd s x t ho base e i0 z sz bytes ht hi hz0 hz1 hz2 hzs hs0 v xs.length (xs.flatMap val) hs hown1 ⟨w.heap.size, 0, none⟩ 1 1 (val y) hx (by rw [hv, Nat.one_mul]) hcell (hval y)
    (by unfold maxLen; omega) (by have := Nat.mul_le_mul (show xs.length + 1 ≤ 1000000000000 by omega) hbytes; omega) (by simp; omega) ?_
  intro v' w' h1 h2 _
  exact h v' w' (by rw [List.length_append, List.flatMap_append]; simpa using h1) (hb0.grown h2 (by simp; omega) fun k hk => (hown1.lt k hk).1)
/-- The same as a step of a region that draws its order. -/
theorem step_struct {P : Program} (t e : TypeId) (z : Value) (bytes : Nat) (ht : P.underlying t = some (.slice e)) (info : (P.info? e).map (fun i => (i.zero, i.size, i.bytes)) = some (some z, sz, bytes))
    (hzs : z.cells.size = sz) (hs0 : 0 < sz) (hbytes : bytes ≤ 100) (hv : ∀ x, (val x).length = sz) (hval : ∀ x, ∀ u ∈ val x, u.oneCell' = true)
    {ops : Array Oper} {o : Oper} {a : Act} {K : Act → World → Prop} {Q : Exit → Act → World → Prop} {E : Prop} (w : World) (hgd : o.guard = none) (s x : Operand)
    (ho : o.op = .call { callee := .builtin .append, args := #[s, x], argTypes := #[t, t] })
    (base : Nat) (v : Value) (xs : List α) (hs : a.eval s = v) (hown : w.ownsRow base e sz v xs.length (xs.flatMap val)) (y : α) (ad : Addr)
    (hx : a.eval x = .slice (some ad) 1 1) (hcell : ∀ j u, (val y)[j]? = some u → w.cell? (ad.add j) = some u) (hlen : xs.length ≤ 1000000000000 - 1) (hbase : base ≤ w.heap.size)
    (h : ∀ v' w', w'.ownsRow base e sz v' (xs ++ [y]).length ((xs ++ [y]).flatMap val) → Below base w w' → K (a.put o.dst v') w') :
    if Region.wanted o (yielded ops a.tmps) = true then Oper.wp P o a w K Q else E := by
  have hw : Region.wanted o (yielded ops a.tmps) = true := by simp [Region.wanted, hgd]
  rw [if_pos hw]
  obtain ⟨i0, hi, hz0, hz1, hz2⟩ := info_parts info
  refine wp_append_own w s x t ho base e i0 z sz bytes ht hi hz0 hz1 hz2 hzs hs0 v xs.length (xs.flatMap val) hs hown ad 1 1 (val y) hx (by rw [hv, Nat.one_mul]) hcell (hval y)
    (by unfold maxLen; omega) (by have := Nat.mul_le_mul (show xs.length + 1 ≤ 1000000000000 by omega) hbytes; omega) hbase ?_
  intro v' w' h1 h2 _
  exact h v' w' (by rw [List.length_append, List.flatMap_append]; simpa using h1) ((Below.refl _ _).grown h2 hbase fun k hk => (hown.lt k hk).1)
theorem cells_made {cs : List Value} (w : World) (e : TypeId) : ∀ (j : Nat) (u : Value), cs[j]? = some u → (w.alloc (.cells cs.toArray e)).cell? ((⟨w.heap.size, 0, none⟩ : Addr).add j) = some u := by
  intro j u hu
  rw [plain_add, (Box.made w e cs.toArray).cell]
  simpa using hu
end

end Go.Proofs.YtafnjbmeponobaaGreatDoor
