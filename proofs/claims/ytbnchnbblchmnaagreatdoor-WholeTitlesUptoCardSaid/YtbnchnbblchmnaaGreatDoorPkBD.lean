/-
  The program's functions keep what the laws of token ask of them.
  The reference's Same.
  The body of TokenSets.
  The program's Set: the keys of a map of the call's own, sorted.
-/
import Derived.Test.YtbnchnbblchmnaaGreatDoorPkBA
import Derived.Test.YtbnchnbblchmnaaGreatDoorPkBB
import Derived.Test.YtbnchnbblchmnaaGreatDoorPkBC
import Derived.Test.YtbnchnbblchmnaaGreatDoorPkAD
import Derived.BigQuiet
import Derived.Shelf.SlIter.Nil
namespace Go.Proofs.YtbnchnbblchmnaaGreatDoor
open Go.RowKit

theorem own10_of {w : World} (h : Ready10 w) : Own10 w where
  words := fun s W hW hs => prWords_any s W (h.below hW) (by omega)
  texts := fun s W hW hs => prTexts_any s W (h.below hW) (by omega)
  zone := fun A n c l G W hW hA hn hs hG => prZone_any A n c l G W (h.below hW) hA (by omega) (fun s hm => by have := hs s hm; omega) hG
  zoneBad := fun A n c _ g W _ _ hg => prZoneBad_any A n c g W hg
  ordered := fun A n c l W _ hA hn hl => prOrdered_any A n c l W hA hn hl
  join := fun A n c l W _ hA hn hl => prJoin_any A n c l W hA hn hl
theorem own10P_of {w : World} (_h : Ready10 w) : Own10P w where
  phrase := fun A A' n c n' c' l ws W _ hA hB hn hn' hl hws => prPhrase_any A A' n c n' c' l ws W hA hB (by omega) (by omega) (fun x hx => ⟨by have := (hl x hx).1; unfold maxLen; omega, (hl x hx).2⟩) (fun x hx => by have := hws x hx; unfold maxLen; omega)

end Go.Proofs.YtbnchnbblchmnaaGreatDoor

namespace Go.Proofs.YtbnchnbblchmnaaGreatDoor
open Go.RowKit

theorem drewN2 (w : World) (a b : Nat) : ∃ k, (w.drewN a).drewN b = w.drewN k := ⟨_, World.drewN_drewN w a b⟩

set_option maxHeartbeats 1600000 in
theorem same_any (A A' : Option Addr) (n n' c c' : Nat) (xs ys : List Int) (B : Nat) (w : World) (h : Arr iv w B (.slice A n c) xs) (h' : Arr iv w B (.slice A' n' c') ys) (hn : n ≤ 9223372036854775807) (hn' : n' ≤ 9223372036854775807) :
    Calls Tryz.prog 10 #[.slice A n c, .slice A' n' c'] w fun e w' => e = .returned (.bool (decide (xs = ys))) ∧ ∃ k, w' = w.drewN k := by
  have HL := Lib.hid h.len
  have HM := Lib.hid h'.len
  by_cases hnn : n = n'
  · subst hnn
    go_enter Tryz.func10, Tryz.ntmps10
    go_wp2
    go_loopw [5] (fun i wr => ∃ k q : Nat, k ≤ n ∧ i = .int .i64 (k : Int) ∧ Hid (xs.take k = ys.take k) ∧ wr = w.drewN q) (fun i _ => n - (intOf i).toNat)
    case atStart => exact ⟨0, 0, by omega, rfl, Lib.hid rfl, rfl⟩
    case round =>
      obtain ⟨k, q, hk, rfl, HT, rfl⟩ := hrel
      by_cases hlt : k < n
      · obtain ⟨b0, o0, rfl, hB0, hc0⟩ := h.some_ (by omega)
        obtain ⟨b1, o1, rfl, hB1, hc1⟩ := h'.some_ (by omega)
        obtain ⟨x, hx⟩ : ∃ a, xs[k]? = some a := ⟨_, List.getElem?_eq_getElem (by have := HL.out; omega)⟩
        obtain ⟨y, hy⟩ : ∃ a, ys[k]? = some a := ⟨_, List.getElem?_eq_getElem (by have := HM.out; omega)⟩
        have d0 := hc0 k x hx
        have d1 := hc1 k y hy
        simp only [iv] at d0 d1
        have i0 : (k : Int) < (n : Int) := by omega
        have ih0 : (0 : Int) ≤ (k : Int) := by omega
        by_cases hxy : x = y
        · subst hxy
          have t1 : (x != x) = false := by simp
          have HT2 : Hid (xs.take (k + 1) = ys.take (k + 1)) := Lib.hid (by rw [take_next hx, take_next hy, HT.out])
          clear hc0 hc1 hx hy
          go_wp2
          go_quiet (fail)
          go_wp2
          go_roundw
          case rel => exact ⟨k + 1, _, by omega, by go_num, HT2, by first | exact World.drewN_drewN _ _ _ | rfl⟩
          case measure => simp [intOf]; omega
        · have t1 : (x != y) = true := by simpa using hxy
          have HF : Hid (decide (xs = ys) = false) := Lib.hid (by
            rw [decide_eq_false]
            rintro rfl
            rw [hx] at hy
            injection hy with hy
            exact hxy hy)
          clear hc0 hc1 hx hy hxy
          go_wp2
          go_quiet (fail)
          go_wp2
          go_ret
          exact ⟨ret_bool (by rw [HF.out]), by first | exact drewN2 _ _ _ | exact ⟨_, rfl⟩⟩
      · obtain rfl : k = n := by omega
        have HF : Hid (decide (xs = ys) = true) := Lib.hid (by
          have e := HT.out
          rw [List.take_of_length_le (by have := HL.out; omega), List.take_of_length_le (by have := HM.out; omega)] at e
          rw [decide_eq_true e])
        go_wp2
        go_ret
        exact ⟨ret_bool (by rw [HF.out]), _, rfl⟩
  · have t1 : ((n : Int) != (n' : Int)) = true := by simp; omega
    have HF : Hid (decide (xs = ys) = false) := Lib.hid (by
      rw [decide_eq_false]
      rintro rfl
      exact hnn (HL.out.symm.trans HM.out))
    clear hnn
    go_enter Tryz.func10, Tryz.ntmps10
    go_wp2
    go_ret
    exact ⟨ret_bool (by rw [HF.out]), 0, rfl⟩


end Go.Proofs.YtbnchnbblchmnaaGreatDoor

namespace Go.Proofs.YtbnchnbblchmnaaGreatDoor
open Go.RowKit

theorem bytesLess_lt : ∀ a b : List UInt8, Op.bytesLess a b = decide (a < b)
  | a, [] => by rw [Op.bytesLess]; simp
  | [], b :: y => by rw [Op.bytesLess]; simp
  | a :: x, b :: y => by
    rw [Op.bytesLess, bytesLess_lt x y]
    by_cases h1 : a < b
    · simp [h1, List.cons_lt_cons_iff]
    · by_cases h2 : a = b
      · subst h2
        simp [List.cons_lt_cons_iff, h1]
      · have : ¬ (a :: x < b :: y) := by rw [List.cons_lt_cons_iff]; simp [h1, h2]
        simp [h1, h2, this]
theorem less_strs {a b : List UInt8} (h : a < b) : Op.bytesLess (str a).toList (str b).toList = true := by
  rw [str_toList, str_toList, bytesLess_lt]
  exact decide_eq_true h
theorem run_geq10 (x y : ByteArray) (W : World) : (binOp .geq 9 (.string x) (.string y)).run Tryz.prog W = .ok (.bool !(Op.bytesLess x.toList y.toList)) W := rfl

/-- What TokenSets asks besides. -/
structure Own10F (w0 : World) : Prop where
  find : ∀ (A : Option Addr) (n c : Nat) (l : List WordI) (t : List UInt8) (W : World), Below w0.heap.size w0 W → SArr 2 wv W W.heap.size (.slice A n c) l → n ≤ 10000 → t.length ≤ 10000 → (∀ x ∈ l, x.1.length ≤ 10000 ∧ -9223372036854775808 ≤ x.2 ∧ x.2 ≤ 9223372036854775807) →
    Calls Tryz.prog 9 #[.slice A n c, .string (str t)] W fun e w' => ∃ A n c, e = .returned (.slice A n c) ∧ Arr iv w' w'.heap.size (.slice A n c) (findI l t) ∧ Below W.heap.size W w'
  set : ∀ (A : Option Addr) (n c : Nat) (l : List WordI) (W : World), Below w0.heap.size w0 W → SArr 2 wv W W.heap.size (.slice A n c) l → n ≤ 10000 → (∀ x ∈ l, x.1.length ≤ 10000 ∧ -9223372036854775808 ≤ x.2 ∧ x.2 ≤ 9223372036854775807) →
    Calls Tryz.prog 8 #[.slice A n c] W fun e w' => ∃ A n c, e = .returned (.slice A n c) ∧ Arr sv w' w'.heap.size (.slice A n c) (setB l) ∧ Below W.heap.size W w'
theorem Own10F.up {a b : World} (h : Own10F a) (k : Below a.heap.size a b) : Own10F b where
  find := fun A n c l t W hW => h.find A n c l t W (below_next k hW)
  set := fun A n c l W hW => h.set A n c l W (below_next k hW)

set_option maxRecDepth 20000 in
set_option maxHeartbeats 3200000 in
theorem short10_any (A : Option Addr) (n c : Nat) (l : List WordI) (w : World) (h : SArr 2 wv w w.heap.size (.slice A n c) l) (hn : n ≤ 9223372036854775807) (hmax : ∀ x ∈ l, x.1.length ≤ 9223372036854775807) :
    Calls Tryz.prog 7 #[.slice A n c] w fun e w' => (∃ b, e = .returned (.bool b) ∧ (b = true → (∀ x ∈ l, x.1.length ≤ 20) ∧ n ≤ 20)) ∧ w' = w := by
  have HL := Lib.hid h.len
  have HMx := Lib.hid hmax
  clear hmax
  go_enter Tryz.func7, Tryz.ntmps7
  go_wp2
  go_loopw [6] (fun i wr => ∃ k : Nat, k ≤ n ∧ i = .int .i64 (k : Int) ∧ Hid (∀ x ∈ l.take k, x.1.length ≤ 20) ∧ wr = w) (fun i _ => n - (intOf i).toNat)
  case atStart => exact ⟨0, by omega, rfl, Lib.hid (by simp), rfl⟩
  case round =>
    obtain ⟨k, hk, rfl, HK, rfl⟩ := hrel
    by_cases hlt : k < n
    · have i1 : decide ((k : Int) < (n : Int)) = true := by simp; omega
      obtain ⟨b0, o0, rfl, hB0, hc0⟩ := words_cells h (by omega)
      obtain ⟨x, hx⟩ : ∃ a, l[k]? = some a := ⟨_, List.getElem?_eq_getElem (by have := HL.out; omega)⟩
      have d0 : wr.cell? ⟨b0, o0 + k * 2, none⟩ = some (.string (str x.1)) := (hc0 k x hx).1
      have kz : (k : Int) < (n : Int) := by omega
      have hsz : (str x.1).size = x.1.length := rfl
      have hxm := HMx.out x (List.mem_of_getElem? hx)
      by_cases h30 : 20 < x.1.length
      · have t2 : decide (20 < (x.1.length : Int)) = true := by simp; omega
        clear hc0 hx
        go_wp2
        go_ret
        exact ⟨⟨_, rfl, fun e => by cases e⟩, rfl⟩
      · have t2 : decide (20 < (x.1.length : Int)) = false := by simp; omega
        have HK2 : Hid (∀ y ∈ l.take (k + 1), y.1.length ≤ 20) := Lib.hid (by
          intro y hy
          rw [take_next hx] at hy
          rcases List.mem_append.1 hy with hy | hy
          · exact HK.out y hy
          · rw [List.mem_singleton.1 hy]; omega)
        clear hc0 hx
        go_wp2
        go_roundw
        case rel => exact ⟨k + 1, by omega, by go_num, HK2, trivial⟩
        case measure => simp [intOf]; omega
    · obtain rfl : k = n := by omega
      have HA : Hid (∀ x ∈ l, x.1.length ≤ 20) := Lib.hid (by have := HK.out; rwa [List.take_of_length_le (by rw [HL.out]; omega)] at this)
      go_wp2
      go_ret
      exact ⟨⟨_, rfl, fun e => ⟨HA.out, by have := of_decide_eq_true e; omega⟩⟩, rfl⟩

theorem put_length (t : Int) : ∀ l : List Int, (putA t l).length ≤ l.length + 1
  | [] => by simp [putA]
  | x :: l => by
    rw [putA]
    have := put_length t l
    split
    · simp; omega
    · split
      · simp
      · simp
theorem put_lengthB (t : List UInt8) : ∀ l : List (List UInt8), (putA t l).length ≤ l.length + 1
  | [] => by simp [putA]
  | x :: l => by
    rw [putA]
    have := put_lengthB t l
    split
    · simp; omega
    · split
      · simp
      · simp
theorem set_length (l : List Int) : (setA l).length ≤ l.length := by
  refine list_snoc (fun l => (setA l).length ≤ l.length) (Nat.le_refl _) (fun l x ih => ?_) l
  rw [set_snoc, List.length_append]
  have := put_length x (setA l)
  simp
  omega
theorem set_lengthB (l : List (List UInt8)) : (setA l).length ≤ l.length := by
  refine list_snoc (fun l => (setA l).length ≤ l.length) (Nat.le_refl _) (fun l x ih => ?_) l
  rw [set_snoc, List.length_append]
  have := put_lengthB x (setA l)
  simp
  omega
theorem find_length (l : List WordI) (t : List UInt8) : (findI l t).length ≤ l.length := by
  unfold findI posOf
  have h1 := set_length ((l.filter fun w => decide (w.1 = t)).map Prod.snd)
  rw [List.length_map] at h1
  have := List.length_filter_le (fun w : WordI => decide (w.1 = t)) l
  omega
theorem setB_length (l : List WordI) : (setB l).length ≤ l.length := by
  unfold setB
  have h1 := set_lengthB (l.map Prod.fst)
  rwa [List.length_map] at h1

set_option maxRecDepth 20000 in
set_option maxHeartbeats 6400000 in
theorem tokenSets_v (A : Option Addr) (n c : Nat) (l : List WordI) (w : World) (hS : Own10 w) (hF : Own10F w) (hP : Own10P w) (h : SArr 2 wv w w.heap.size (.slice A n c) l) (hn : n ≤ 9223372036854775807) (hmax : ∀ x ∈ l, x.1.length ≤ 9223372036854775807) (hpos : ∀ x ∈ l, -9223372036854775808 ≤ x.2 ∧ x.2 ≤ 9223372036854775807) :
    Calls Tryz.prog 3 #[.slice A n c] w fun e w' => e = .returned (.bool true) ∧ Below w.heap.size w w' := by
  have HAw := Lib.hid (awake10_any w hS)
  have HSh := Lib.hid (fun W hW => short10_any A n c l W (h.up hW) hn hmax)
  have HA := Lib.hid (fun W hW => SArr.up (w := W) h hW)
  have HL := Lib.hid h.len
  clear hmax
  go_enter Tryz.func3, Tryz.ntmps3
  go_wp2_with fail
  refine HAw.out.mono ?_
  rintro e w1 ⟨rfl, k1⟩
  go_wp2_with fail
  refine (HSh.out _ k1).mono ?_
  rintro e _ ⟨⟨f, rfl, hb⟩, rfl⟩
  cases f with
  | false =>
    go_wp2
    go_ret
    exact ⟨rfl, k1⟩
  | true =>
    obtain ⟨h20, hn20⟩ := hb rfl
    have hok : ∀ x ∈ l, x.1.length ≤ 10000 ∧ -9223372036854775808 ≤ x.2 ∧ x.2 ≤ 9223372036854775807 := fun x hx => ⟨by have := h20 x hx; omega, hpos x hx⟩
    have HSt := Lib.hid (fun W hW => hF.set A n c l W hW (h.up hW) (by omega) hok)
    have HFi := Lib.hid (fun t W hW (ht : t.length ≤ 10000) => hF.find A n c l t W hW (h.up hW) (by omega) ht hok)
    have HPh := Lib.hid (fun t B W hW hB (ht : t.length ≤ 10000) => hP.phrase A B n c 1 1 l [t] W hW (h.up hW) hB (by omega) (by omega) hok (fun x hx => by rw [List.mem_singleton.1 hx]; omega))
    have HAs := Lib.hid (setB_asc l)
    have HTx : Hid (∀ s ∈ setB l, s.length ≤ 20 ∧ findI l s ≠ [] ∧ phraseI l [s] = findI l s) := Lib.hid (fun s hs => by
      obtain ⟨p, hp⟩ := setB_mem.1 hs
      exact ⟨h20 _ hp, (tok_sets l).2.1 s hs⟩)
    have HMm := Lib.hid (tok_sets l).2.2
    have H20 := Lib.hid h20
    have HFl := Lib.hid (find_length l)
    have hsl := setB_length l
    rw [HL.out] at hsl
    obtain ⟨S, hSe⟩ : ∃ S, setB l = S := ⟨_, rfl⟩
    rw [hSe] at HSt HAs HTx hsl
    clear hb hok h20 hSe
    go_wp2_with fail
    refine (HSt.out _ k1).mono ?_
    rintro e w2 ⟨A2, n2, c2, rfl, hA2, k2⟩
    have b2 := below_next k1 k2
    have HL2 := Lib.hid hA2.len
    have hn2 : n2 ≤ 20 := by have := HL2.out; omega
    go_wp2
    go_loopw [21] (fun i wr => ∃ k : Nat, k ≤ n2 ∧ i = .int .i64 (k : Int) ∧ Below w2.heap.size w2 wr) (fun i _ => n2 - (intOf i).toNat)
    case atStart => exact ⟨0, by omega, rfl, Below.refl _ _⟩
    case round =>
      obtain ⟨k, hk, rfl, hb⟩ := hrel
      have b3 := below_next b2 hb
      by_cases hlt : k < n2
      · have i1 : decide ((k : Int) < (n2 : Int)) = true := by simp; omega
        have kz : (k : Int) < (n2 : Int) := by omega
        obtain ⟨b0, o0, rfl, hB0, hc0⟩ := hA2.some_ (by omega)
        obtain ⟨x, hx⟩ : ∃ a, S[k]? = some a := ⟨_, List.getElem?_eq_getElem (by have := HL2.out; omega)⟩
        have d0 : wr.cell? ⟨b0, o0 + k, none⟩ = some (.string (str x)) := (hb.cell (p := ⟨b0, o0 + k, none⟩) hB0).trans (hc0 k x hx)
        obtain ⟨hx20, hxf, hxp⟩ := HTx.out x (List.mem_of_getElem? hx)
        have HFx := Lib.hid (fun W hW => HFi.out x W hW (by omega))
        have HPx := Lib.hid (fun B W hW hB => HPh.out x B W hW hB (by omega))
        have hfl := HFl.out x
        rw [HL.out] at hfl
        rw [hxp] at HPx
        have hfp := List.length_pos_iff.2 hxf
        obtain ⟨P, hP⟩ : ∃ P, findI l x = P := ⟨_, rfl⟩
        rw [hP] at HFx HPx hfl hfp
        have hx9 := hx
        clear hxf hxp hP
        go_wp2_with fail
        refine (HFx.out _ b3).mono ?_
        rintro e w4 ⟨A4, n4, c4, rfl, hA4, k4⟩
        have b4 := below_next b3 k4
        have hl4 := hA4.len
        have z4 : ((n4 : Int) == 0) = false := eqb_false (by omega)
        have z4n : (n4 == 0) = false := by simp; omega
        have HA4 := Lib.hid hA4
        clear hA4
        by_cases hk0 : k = 0
        · have j1 : decide ((0 : Int) < (k : Int)) = false := decide_eq_false (by omega)
          have j1n : decide (0 < k) = false := decide_eq_false (by omega)
          have k24 := below_next hb k4
          have bA := b4.alloc b4.size (.cells #[Value.string (str x)] 9)
          have h4n : n4 ≤ 20 := by omega
          clear hc0 hx hx9 hl4
          go_wp2_with fail
          refine (HPx.out _ _ bA (arr_made w4 9 [x] 1 _ rfl rfl)).mono ?_
          rintro e w5 ⟨A5, n5, c5, rfl, hA5, k5⟩
          have b5 := below_next bA k5
          have k45 : Below w4.heap.size w4 w5 := below_next ((Below.refl _ _).alloc (Nat.le_refl _) _) k5
          have HSm := Lib.hid (same_any A5 A4 n5 n4 c5 c4 P P w5.heap.size w5 hA5 (HA4.out.up k45) (by have := hA5.len; have := HA4.out.len; omega) (by omega))
          rw [decide_eq_true rfl] at HSm
          have k25 := below_next k24 k45
          clear hA5
          go_wp2_with fail
          refine HSm.out.mono ?_
          rintro e _ ⟨rfl, m6, rfl⟩
          go_wp2
          go_roundw
          case rel => exact ⟨k + 1, by omega, by go_num, below_drewN k25 _⟩
          case measure => simp [intOf]; omega
        · obtain ⟨j, rfl⟩ : ∃ j, k = j + 1 := ⟨k - 1, by omega⟩
          have j1 : decide ((0 : Int) < ((j + 1 : Nat) : Int)) = true := decide_eq_true (by omega)
          have j1n : decide (0 < j + 1) = true := decide_eq_true (by omega)
          obtain ⟨y, hy⟩ : ∃ a, S[j]? = some a := ⟨_, List.getElem?_eq_getElem (by have := HL2.out; omega)⟩
          have hyx : y < x := by
            have h1 := (List.getElem?_eq_some_iff.1 hy).2
            have h2 := (List.getElem?_eq_some_iff.1 hx9).2
            have h3 := List.pairwise_iff_getElem.1 HAs.out j (j + 1) (List.getElem?_eq_some_iff.1 hy).1 (List.getElem?_eq_some_iff.1 hx9).1 (Nat.lt_succ_self j)
            rw [h1, h2] at h3
            exact h3
          have hge : ∀ W : World, (binOp .geq 9 (.string (str y)) (.string (str x))).run Tryz.prog W = .ok (.bool false) W := fun W => by rw [run_geq10, less_strs hyx]; rfl
          have e1 : ((j + 1 : Nat) : Int) - 1 = (j : Int) := by omega
          have e2 : IntKind.i64.wrap (j : Int) = (j : Int) := wraps_i64 _ (by omega) (by omega)
          have jz : (j : Int) < (n2 : Int) := by omega
          have k24 := below_next hb k4
          have dy : w4.cell? ⟨b0, o0 + j, none⟩ = some (.string (str y)) := (k24.cell (p := ⟨b0, o0 + j, none⟩) hB0).trans (hc0 j y hy)
          have bA := b4.alloc b4.size (.cells #[Value.string (str x)] 9)
          have h4n : n4 ≤ 20 := by omega
          clear hc0 hx hx9 hl4 hy hyx
          go_wp2_with fail
          refine (HPx.out _ _ bA (arr_made w4 9 [x] 1 _ rfl rfl)).mono ?_
          rintro e w5 ⟨A5, n5, c5, rfl, hA5, k5⟩
          have b5 := below_next bA k5
          have k45 : Below w4.heap.size w4 w5 := below_next ((Below.refl _ _).alloc (Nat.le_refl _) _) k5
          have HSm := Lib.hid (same_any A5 A4 n5 n4 c5 c4 P P w5.heap.size w5 hA5 (HA4.out.up k45) (by have := hA5.len; have := HA4.out.len; omega) (by omega))
          rw [decide_eq_true rfl] at HSm
          have k25 := below_next k24 k45
          clear hA5
          go_wp2_with fail
          refine HSm.out.mono ?_
          rintro e _ ⟨rfl, m6, rfl⟩
          go_wp2
          go_roundw
          case rel => exact ⟨j + 1 + 1, by omega, by go_num, below_drewN k25 _⟩
          case measure => simp [intOf]; omega
      · obtain rfl : k = n2 := by omega
        have i1 : decide ((k : Int) < (k : Int)) = false := by simp
        have i1n : decide (k < k) = false := by simp
        obtain ⟨w3, hw3⟩ : ∃ y : World, y = wr := ⟨_, rfl⟩
        subst hw3
        clear hA2
        go_wp2
        go_loopw [57] (fun i wr => ∃ k : Nat, k ≤ n ∧ i = .int .i64 (k : Int) ∧ Below w.heap.size w wr) (fun i _ => n - (intOf i).toNat)
        case atStart => exact ⟨0, by omega, rfl, b3⟩
        case round =>
          obtain ⟨i, hi, rfl, hb5⟩ := hrel
          by_cases hlt5 : i < n
          · have j1 : decide ((i : Int) < (n : Int)) = true := by simp; omega
            have jz : (i : Int) < (n : Int) := by omega
            obtain ⟨b0, o0, rfl, hB0, hc0⟩ := words_cells h (by omega)
            obtain ⟨x, hx⟩ : ∃ a, l[i]? = some a := ⟨_, List.getElem?_eq_getElem (by have := HL.out; omega)⟩
            have d0 : wr.cell? ⟨b0, o0 + i * 2, none⟩ = some (.string (str x.1)) := (hb5.cell (p := ⟨b0, o0 + i * 2, none⟩) hB0).trans (hc0 i x hx).1
            have d1 : wr.cell? ⟨b0, o0 + i * 2 + 1, none⟩ = some (.int .i64 x.2) := (hb5.cell (p := ⟨b0, o0 + i * 2 + 1, none⟩) hB0).trans (hc0 i x hx).2
            have hmem := List.mem_of_getElem? hx
            have h20 := H20.out x hmem
            have hxm := HMm.out x hmem
            have hfl := HFl.out x.1
            have HFx := Lib.hid (fun W hW => HFi.out x.1 W hW (by omega))
            obtain ⟨t, p⟩ := x
            simp only at d0 d1 hxm hfl HFx
            obtain ⟨P, hP⟩ : ∃ P, findI l t = P := ⟨_, rfl⟩
            rw [hP] at HFx hxm hfl
            rw [HL.out] at hfl
            have HXm := Lib.hid hxm
            clear hc0 hx hmem hxm hP h20
            have bA := hb5.alloc hb5.size (.cells #[Value.string (str t), Value.int .i64 p] 32)
            have hBx := Box.made wr 32 #[Value.string (str t), Value.int .i64 p]
            obtain ⟨qb, hqb⟩ : ∃ qb, wr.heap.size = qb := ⟨_, rfl⟩
            rw [hqb] at hBx
            go_wp2_with fail
            refine (HFx.out _ bA).mono ?_
            rintro e w6 ⟨A6, n6, c6, rfl, hA6, k6⟩
            have b6 := below_next bA k6
            have hB6 : Box w6 qb 32 #[Value.string (str t), Value.int .i64 p] := hBx.below k6 hBx.lt
            have HL6 := Lib.hid hA6.len
            have h6n : n6 ≤ 20 := by have := HL6.out; omega
            have hq6 := hB6.lt
            clear hBx hqb
            go_wp2
            go_loopw [9, 66] (fun v i wr => ∃ (k : Nat) (V : Bool), k ≤ n6 ∧ i = .int .i64 (k : Int) ∧ v = .bool V ∧ Hid (V = decide (p ∈ P.take k)) ∧ Below w6.heap.size w6 wr) (fun _ i _ => n6 - (intOf i).toNat)
            case atStart => exact ⟨0, false, by omega, rfl, rfl, Lib.hid (by simp), Below.refl _ _⟩
            case round =>
              obtain ⟨m, V, hm, rfl, rfl, HV, hb7⟩ := hrel
              by_cases hlt7 : m < n6
              · have m1 : decide ((m : Int) < (n6 : Int)) = true := by simp; omega
                have mz : (m : Int) < (n6 : Int) := by omega
                obtain ⟨b1, o1, rfl, hB1, hc1⟩ := hA6.some_ (by omega)
                obtain ⟨y, hy⟩ : ∃ a, P[m]? = some a := ⟨_, List.getElem?_eq_getElem (by have := HL6.out; omega)⟩
                have d2 : wr.cell? ⟨b1, o1 + m, none⟩ = some (.int .i64 y) := (hb7.cell (p := ⟨b1, o1 + m, none⟩) hB1).trans (hc1 m y hy)
                have d3 : wr.cell? ⟨qb, 1, none⟩ = some (.int .i64 p) := (hb7.cell (p := ⟨qb, 1, none⟩) hq6).trans (hB6.cell 1)
                have HT := Lib.hid (take_next hy)
                cases V with
                | true =>
                  have HV2 : Hid (true = decide (p ∈ P.take (m + 1))) := Lib.hid (by
                    have h9 := of_decide_eq_true HV.out.symm
                    rw [HT.out]
                    exact (decide_eq_true (List.mem_append_left _ h9)).symm)
                  clear hc1 hy
                  go_wp2
                  go_roundw
                  case rel => exact ⟨m + 1, true, by omega, by go_num, rfl, HV2, by first | exact below_drewN hb7 _ | exact hb7⟩
                  case measure => simp [intOf]; omega
                | false =>
                  have HV2 : Hid (decide (y = p) = decide (p ∈ P.take (m + 1))) := Lib.hid (by
                    have h9 := of_decide_eq_false HV.out.symm
                    rw [HT.out, decide_eq_decide, List.mem_append, List.mem_singleton]
                    constructor
                    · intro e; exact .inr e.symm
                    · rintro (e | e)
                      · exact absurd e h9
                      · exact e.symm)
                  have hyp : (y == p) = decide (y = p) := by
                    by_cases e : y = p
                    · rw [decide_eq_true e]; exact eqb_true e
                    · rw [decide_eq_false e]; exact eqb_false e
                  clear hc1 hy
                  go_wp2
                  go_roundw
                  case rel => exact ⟨m + 1, decide (y = p), by omega, by go_num, rfl, HV2, by first | exact below_drewN hb7 _ | exact hb7⟩
                  case measure => simp [intOf]; omega
              · obtain rfl : m = n6 := by omega
                have m1 : decide ((m : Int) < (m : Int)) = false := by simp
                have m1n : decide (m < m) = false := by simp
                have hV := HV.out
                rw [List.take_of_length_le (by rw [HL6.out]; exact Nat.le_refl _), decide_eq_true HXm.out] at hV
                subst hV
                have b7 := below_next b6 hb7
                go_wp2
                go_roundw
                case rel => exact ⟨i + 1, by omega, by go_num, b7⟩
                case measure => simp [intOf]; omega
          · obtain rfl : i = n := by omega
            have j1 : decide ((i : Int) < (i : Int)) = false := by simp
            have j1n : decide (i < i) = false := by simp
            go_wp2
            go_ret
            exact ⟨rfl, hb5⟩

end Go.Proofs.YtbnchnbblchmnaaGreatDoor

namespace Go.Proofs.YtbnchnbblchmnaaGreatDoor
open Go.RowKit Go.Maps Go.Shelf
open Go.Sort hiding Below

theorem insertS_perm {H : Type} (x : Lit × DataW H) : ∀ l : List (Lit × DataW H), (DataW.insert x l).Perm (x :: l)
  | [] => .refl _
  | y :: r => by
    unfold DataW.insert
    split
    · exact .refl _
    · exact ((insertS_perm x r).cons y).trans (.swap x y r)
/-- The keys of the map are the texts of L, each once. -/
def KeysS (D : DataW Unit) (L : List (List UInt8)) : Prop := ∃ es, D = .map es ∧ (es.map fun p => strOf p.1).Nodup ∧ (∀ p ∈ es, ∃ s, p.1 = .string s) ∧ ∀ s, (∃ p ∈ es, p.1 = .string s) ↔ s ∈ L
theorem keysS_nil : KeysS (.map []) [] := by
  refine ⟨[], rfl, List.nodup_nil, fun p hp => ?_, fun s => ?_⟩
  · cases hp
  · simp
theorem keysS_put {D : DataW Unit} {L : List (List UInt8)} (h : KeysS D L) (k : List UInt8) (v : DataW Unit) : KeysS (D.put (.string k) v) (L ++ [k]) := by
  obtain ⟨es, rfl, hn, hs, hm⟩ := h
  have hperm := insertS_perm (Lit.string k, v) (es.filter fun p => !p.1.sameKey (.string k))
  have hf : ∀ p ∈ es.filter (fun p => !p.1.sameKey (.string k)), p ∈ es ∧ p.1 ≠ .string k := by
    intro p hp
    obtain ⟨h1, h2⟩ := List.mem_filter.1 hp
    refine ⟨h1, fun e => ?_⟩
    rw [e] at h2
    simp [Lit.sameKey] at h2
  have hf2 : ∀ p ∈ es, p.1 ≠ .string k → p ∈ es.filter (fun p => !p.1.sameKey (.string k)) := by
    intro p hp hne
    refine List.mem_filter.2 ⟨hp, ?_⟩
    obtain ⟨s, e⟩ := hs p hp
    rw [e] at hne ⊢
    have : s ≠ k := fun e2 => hne (by rw [e2])
    simp [Lit.sameKey, this]
  refine ⟨_, rfl, ?_, fun p hp => ?_, fun s => ?_⟩
  · refine ((hperm.map fun p => strOf p.1).nodup_iff).2 ?_
    rw [List.map_cons]
    refine List.nodup_cons.2 ⟨fun hmem => ?_, (List.Sublist.map _ List.filter_sublist).nodup hn⟩
    obtain ⟨p, hp, e⟩ := List.mem_map.1 hmem
    obtain ⟨h1, h2⟩ := hf p hp
    obtain ⟨s, e2⟩ := hs p h1
    rw [e2] at e h2
    exact h2 (by rw [show s = k from e])
  · rcases List.mem_cons.1 (hperm.mem_iff.1 hp) with rfl | hp
    · exact ⟨k, rfl⟩
    · exact hs p (hf p hp).1
  · rw [List.mem_append, List.mem_singleton, ← hm s]
    constructor
    · rintro ⟨p, hp, e⟩
      rcases List.mem_cons.1 (hperm.mem_iff.1 hp) with rfl | hp
      · injection e with e
        exact .inr e.symm
      · exact .inl ⟨p, (hf p hp).1, e⟩
    · rintro (⟨p, hp, e⟩ | rfl)
      · by_cases hk : s = k
        · subst hk
          exact ⟨_, hperm.mem_iff.2 List.mem_cons_self, rfl⟩
        · exact ⟨p, hperm.mem_iff.2 (List.mem_cons_of_mem _ (hf2 p hp (by rw [e]; intro e2; injection e2 with e2; exact hk e2))), e⟩
      · exact ⟨_, hperm.mem_iff.2 List.mem_cons_self, rfl⟩
theorem keysS_str {D : DataW Unit} {L : List (List UInt8)} (h : KeysS D L) : (strKeys D).Nodup ∧ ∀ s, s ∈ strKeys D ↔ s ∈ L := by
  obtain ⟨es, rfl, hn, hs, hm⟩ := h
  refine ⟨hn, fun s => ?_⟩
  rw [← hm s]
  unfold strKeys
  rw [List.mem_map]
  constructor
  · rintro ⟨p, hp, e⟩
    obtain ⟨t, e2⟩ := hs p hp
    rw [e2] at e
    exact ⟨p, hp, by rw [e2, show t = s from e]⟩
  · rintro ⟨p, hp, e⟩
    exact ⟨p, hp, by rw [e]; rfl⟩
theorem sorted_set {D : DataW Unit} {l : List WordI} (h : KeysS D (l.map Prod.fst)) {ss : List (List UInt8)} (hp : ss.Perm (strKeys D)) : ss.mergeSort (fun x y => decide (x ≤ y)) = setB l := by
  obtain ⟨h1, h2⟩ := keysS_str h
  have hle : (ss.mergeSort fun x y => decide (x ≤ y)).Pairwise fun a b => a ≤ b := by
    have := List.pairwise_mergeSort (le := fun (x y : List UInt8) => decide (x ≤ y)) (fun a b c h1 h2 => by simp only [decide_eq_true_eq] at h1 h2 ⊢; exact List.le_trans h1 h2) (fun a b => by simp only [Bool.or_eq_true, decide_eq_true_eq]; exact List.le_total a b) ss
    exact this.imp fun h => by simpa using h
  have hnd : (ss.mergeSort fun x y => decide (x ≤ y)).Nodup := ((List.mergeSort_perm ss _).trans hp).nodup_iff.2 h1
  refine asc_eq (fun a => List.lt_irrefl a) bytes_tr _ _ ?_ (setB_asc l) fun s => ?_
  · refine (hle.and hnd).imp fun {a b} hab => ?_
    obtain ⟨h3, h4⟩ := hab
    by_cases hlt : a < b
    · exact hlt
    · exact absurd (List.le_antisymm h3 (List.not_lt.1 hlt)) h4
  · rw [((List.mergeSort_perm ss _).trans hp).mem_iff, h2 s, List.mem_map]
    rw [setB_mem]
    constructor
    · rintro ⟨⟨a, b⟩, h3, rfl⟩; exact ⟨b, h3⟩
    · rintro ⟨p, h3⟩; exact ⟨(s, p), h3, rfl⟩

theorem sortsS (m : Nat) : AnyZ.SortsIn Tryz.prog renZS Fence.wide m :=
  ⟨fun blk off cap ss W hH hblk hsz => callsIn_wide.2 (AnyM.slices_Sort_string sortS blk off cap ss W hH hblk hsz),
   fun p cap W => callsIn_wide.2 (AnyM.slices_Sort_string_none sortS p cap W)⟩
theorem mapsKeysS_any (mb : Option Nat) (W : World) : Calls Tryz.prog 27 #[.map mb] W fun e w' => e = .returned (.func (.func 58) #[] #[.pointer (some ⟨W.heap.size, 0, none⟩)]) ∧ w' = W.alloc (.cells #[.map mb] 49) :=
  (callsIn_wide (n := 5)).1 (AnyZ.keys_in keysS Fence.wide 5 trivial rfl mb W)
set_option maxHeartbeats 1000000 in
theorem sortedKeysS_any (b nn : Nat) (D0 : DataW Unit) (w : World) (hown : w.ownsMap Tryz.prog 9 (plainElem Tryz.prog 4) b nn D0) (hmax : Maps.size D0 ≤ maxLen) (hbytes : Maps.size D0 * 16 ≤ 140737488355328) :
    Calls Tryz.prog 26 #[.func (.func 58) #[] #[.pointer (some ⟨w.heap.size, 0, none⟩)]] (w.alloc (.cells #[.map (some b)] 49)) fun e w' => ∃ (v : Value) (ss : List (List UInt8)), e = .returned v ∧ ss.Perm (strKeys D0) ∧
      w'.ownsRow (w.alloc (.cells #[.map (some b)] 49)).heap.size 9 1 v ss.length ((ss.mergeSort (fun x y => decide (x ≤ y))).map encStr) ∧ (v = .slice none 0 0 ↔ ss = []) ∧ Below (w.alloc (.cells #[.map (some b)] 49)).heap.size (w.alloc (.cells #[.map (some b)] 49)) w' := by
  have hbl := hown.lt
  have hseq : SeqGives Fence.wide 2 Tryz.prog 58 #[.pointer (some ⟨w.heap.size, 0, none⟩)] encStr (fun ss => ss.Perm (strKeys D0)) (Maps.size D0) (w.alloc (.cells #[.map (some b)] 49)) :=
    AnyZ.keys_gives (ρ := renKS) { keysS with } Fence.wide _ trivial rfl (by omega) w.heap.size b nn D0 _ (by simp) (by simp) (hown.alloc _)
  exact (callsIn_wide (n := 5)).1 (AnyZ.sorted_in sortedS Fence.wide 5 trivial trivial trivial trivial rfl (by omega) (sortsS _) (enters_of Tryz.func57 (by kernel_rfl) rfl) 58 #[.pointer (some ⟨w.heap.size, 0, none⟩)] trivial (enters_of Tryz.func58 (by kernel_rfl) rfl) _ _ hmax hbytes _ hseq)

theorem key_litS (s : List UInt8) (hs : s.length ≤ 1000000) : keyOf Tryz.prog 9 (.string (str s)) = some (.string s) := by
  have hkey : keyOf Tryz.prog 9 (.string (str s)) = some (.string (str s).data.toList) := WideMaps.keyOf_string_mk (P := Tryz.prog) Tryz.underlying9 (by rw [str_size]; unfold maxLen; omega)
  have ep : (str s).data.toList = s := by simp [str]
  rw [ep] at hkey
  exact hkey

set_option maxRecDepth 20000 in
set_option maxHeartbeats 3200000 in
theorem prSet_any (A : Option Addr) (n c : Nat) (l : List WordI) (w : World) (hA : SArr 2 wv w w.heap.size (.slice A n c) l) (hn : n ≤ 1000000) (hl : ∀ x ∈ l, x.1.length ≤ 1000000) :
    Calls Tryz.prog 8 #[.slice A n c] w fun e w' => ∃ A n c, e = .returned (.slice A n c) ∧ Arr sv w' w'.heap.size (.slice A n c) (setB l) ∧ Below w.heap.size w w' := by
  have hlen : l.length = n := hA.len
  have HA := Lib.hid hA
  have HN := Lib.hid hlen
  have HL := Lib.hid hl
  clear hA hlen hl
  have hmm := @run_makeMap Tryz.prog
  go_enter Tryz.func8, Tryz.ntmps8
  go_wp2
  go_loopw [9] (fun s9 wr => ∃ (k : Nat) (D : DataW Unit), s9 = .int .i64 (k : Int) ∧ k ≤ n ∧ Hid (KeysS D ((l.take k).map Prod.fst)) ∧ Hid (wr.ownsMap Tryz.prog 9 (plainElem Tryz.prog 4) w.heap.size k D) ∧ Below w.heap.size w wr) (fun s9 _ => n - (intOf s9).toNat)
  case atStart => exact ⟨0, .map [], rfl, Nat.zero_le _, Lib.hid keysS_nil, Lib.hid (World.ownsMap_made _ _ _ _), below_new (Below.refl _ _) _⟩
  case round =>
    obtain ⟨k, D, rfl, hk, hD, hO, hb⟩ := hrel
    have hk0 : (0 : Int) ≤ (k : Int) := by omega
    by_cases hkn : k < n
    · have hkz : (k : Int) < (n : Int) := by omega
      obtain ⟨x, hx⟩ : ∃ x, l[k]? = some x := ⟨_, List.getElem?_eq_getElem (by have := HN.out; omega)⟩
      obtain ⟨b0, o0, rfl, hB0, hc0⟩ := words_cells HA.out (by omega)
      have d0 : wr.cell? ⟨b0, o0 + k * 2, none⟩ = some (.string (str x.1)) := (hb.cell (p := ⟨b0, o0 + k * 2, none⟩) hB0).trans (hc0 k x hx).1
      have d1 : wr.cell? ⟨b0, o0 + k * 2 + 1, none⟩ = some (.int .i64 x.2) := (hb.cell (p := ⟨b0, o0 + k * 2 + 1, none⟩) hB0).trans (hc0 k x hx).2
      have hkey := key_litS x.1 (HL.out x (List.mem_of_getElem? hx))
      have HS2 : Hid (KeysS (D.put (.string x.1) (.lit (.bool true))) ((l.take (k + 1)).map Prod.fst)) := Lib.hid (by rw [take_next hx, List.map_append]; exact keysS_put hD.out x.1 _)
      have hO2 := hO.out.alloc (.cells #[.string (str x.1), .int .i64 x.2] 32)
      have hb1 : Below w.heap.size w (wr.alloc (.cells #[.string (str x.1), .int .i64 x.2] 32)) := hb.alloc hb.size _
      clear hx hc0
      go_wp2_with (first
        | (at_mapUpdate; refine wpList_mapUpdate_own _ rfl _ _ _ 49 rfl 9 4 (string_keyed Tryz.underlying9) Tryz.underlying49 _ w.heap.size k _ rfl hO2 (by unfold maxLen; omega) _ _ _ rfl rfl hkey _ [] (plainElem_bool Tryz.underlying4 true) ?_)
        | go_in)
      intro w3 hown3 hgrow3
      have hb3 := hb1.grown hgrow3 hb1.size (fun j hj => by cases hj; omega)
      have HO3 := Lib.hid hown3
      clear hown3 hgrow3 hO2 hkey
      go_wp2
      go_roundw
      case rel => exact ⟨k + 1, _, by simp, by omega, HS2, HO3, hb3⟩
      case measure => simp [intOf]; omega
    · obtain rfl : k = n := by omega
      have hfull : l.take k = l := List.take_of_length_le (by have := HN.out; omega)
      rw [hfull] at hD
      have hsz := hO.out.size_le
      have HK := Lib.hid (mapsKeysS_any (some w.heap.size) wr)
      have HS := Lib.hid (sortedKeysS_any w.heap.size k D wr hO.out (by unfold maxLen; omega) (by omega))
      clear hfull hsz
      go_wp2_with fail
      refine HK.out.mono ?_
      rintro e w2 ⟨rfl, rfl⟩
      go_wp2_with fail
      refine HS.out.mono ?_
      rintro e w3 ⟨v, ss, rfl, hss, hrow, -, k3⟩
      have hm := sorted_set hD.out hss
      have hln : ss.length = (setB l).length := by rw [← hm, List.length_mergeSort]
      rw [hm, hln] at hrow
      have hArr : Arr sv w3 w3.heap.size v (setB l) := Arr.of_own hrow
      obtain ⟨A2, c2, rfl⟩ := hArr.form
      have HAr := Lib.hid hArr
      have hb2 : Below w.heap.size w w3 := (hb.alloc hb.size _).trans (k3.mono (by have := hb.size; simp; omega))
      clear hArr hrow hss hm hln k3
      go_wp2
      go_ret
      exact ⟨_, _, _, rfl, HAr.out, hb2⟩

theorem own10F_of {w : World} : Own10F w where
  find := fun A n c l t W _ hA hn ht _ => prFind_any A n c l t W hA (by omega)
  set := fun A n c l W _ hA hn hl => prSet_any A n c l W hA (by omega) (fun x hx => by have := (hl x hx).1; omega)

end Go.Proofs.YtbnchnbblchmnaaGreatDoor
