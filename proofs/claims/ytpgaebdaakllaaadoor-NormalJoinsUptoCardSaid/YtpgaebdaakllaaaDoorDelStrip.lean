/-
  The library's DeleteFunc over the program's isMark, and Equal; the program's Strip, Marks, Equal.
  The program's Strip, Marks, Equal.
-/
import Derived.Test.YtpgaebdaakllaaaDoorSortDec
import Derived.Lib.SliceRun
namespace Go.Proofs.YtpgaebdaakllaaaDoor
open Go.RowKit

theorem grown_cells {w : World} {g : Nat} : ∀ (vs : List Value) (o : Nat) (w' : World), w.grownBy w' (some g) → w.grownBy (w'.setCells g o vs) (some g)
  | [], _, _, h => h
  | v :: r, o, w', h => by
    rw [World.setCells]
    exact grown_cells r (o + 1) _ (grown_set h o v)
theorem box_cells {g : Nat} {t : TypeId} : ∀ (vs : List Value) (o : Nat) (w : World) (cs : Array Value), Box w g t cs → ∃ cs', Box (w.setCells g o vs) g t cs' ∧ cs'.size = cs.size ∧ cs'.toList.take o = cs.toList.take o
  | [], _, _, cs, h => ⟨cs, h, rfl, rfl⟩
  | v :: r, o, w, cs, h => by
    obtain ⟨cs', h1, h2, h3⟩ := box_cells r (o + 1) _ _ (h.put o v)
    rw [World.setCells]
    refine ⟨cs', h1, by rw [h2]; simp, ?_⟩
    have h4 := congrArg (List.take o) h3
    rw [List.take_take, List.take_take, Nat.min_eq_left (by omega), Array.toList_setIfInBounds, List.take_set, List.set_eq_of_length_le (by rw [List.length_take]; omega)] at h4
    exact h4

/-- Where the first mark stands. -/
def MarkAt (l : List Nat) (k : Nat) : Prop := (∃ x, l[k]? = some x ∧ isM x = true) ∧ ∀ c ∈ l.take k, isM c = false

set_option maxRecDepth 20000 in
set_option maxHeartbeats 1600000 in
theorem indexFunc_any (A : Option Addr) (n c : Nat) (l : List Nat) (w : World) (hS : Spans w) (hA : Arr nv w w.heap.size (.slice A n c) l) (hn : n ≤ 1000000) :
    Calls Tryd.prog 49 #[.slice A n c, .func (.func 35) #[] #[]] w fun e w' => (∃ z : Int, e = .returned (.int .i64 z) ∧ ((z = -1 ∧ ∀ c ∈ l, isM c = false) ∨ ∃ k : Nat, z = (k : Int) ∧ MarkAt l k)) ∧ Below w.heap.size w w' := by
  have HLn := Lib.hid hA.len
  have HS := Lib.hid hS
  clear hS
  go_enter Tryd.func49, Tryd.ntmps49
  go_wp2
  go_loopw [5, 8] (fun _ s wr => ∃ k : Nat, s = .int .i64 (k : Int) ∧ k ≤ n ∧ Hid (∀ c ∈ l.take k, isM c = false) ∧ Below w.heap.size w wr) (fun _ s _ => n - (intOf s).toNat)
  case atStart => exact ⟨0, rfl, Nat.zero_le _, Lib.hid (by simp), Below.refl _ _⟩
  case round =>
    obtain ⟨k, rfl, hk, HM, hb⟩ := hrel
    by_cases hlt : k < n
    · have t1 : decide ((k : Int) < (n : Int)) = true := by simp; omega
      have kz : (k : Int) < (n : Int) := by omega
      obtain ⟨b0, o0, rfl, hB0, hc0⟩ := hA.some_ (by omega)
      obtain ⟨x, hx⟩ := get_some (l := l) (i := k) (by have := HLn.out; omega)
      have d0 := (hb.cell (p := ⟨b0, o0 + k, none⟩) hB0).trans (hc0 k x hx)
      simp only [nv] at d0
      have HC := Lib.hid (prIsMark_any x wr (HS.out.below hb))
      cases hmk : isM x with
      | true =>
        rw [hmk] at HC
        have HE : Hid (MarkAt l k) := Lib.hid ⟨⟨x, hx, hmk⟩, HM.out⟩
        clear hc0 hx hmk
        go_wp2_with fail
        refine HC.out.mono ?_
        rintro e w2 ⟨rfl, k2⟩
        go_wp2
        go_ret
        exact ⟨⟨(k : Int), rfl, .inr ⟨k, rfl, HE.out⟩⟩, below_next hb k2⟩
      | false =>
        rw [hmk] at HC
        have HM2 : Hid (∀ c ∈ l.take (k + 1), isM c = false) := Lib.hid (by
          rw [take_next hx]
          intro u hu
          rcases List.mem_append.1 hu with hu | hu
          · exact HM.out u hu
          · rw [List.mem_singleton.1 hu]; exact hmk)
        clear hc0 hx hmk
        go_wp2_with fail
        refine HC.out.mono ?_
        rintro e w2 ⟨rfl, k2⟩
        go_wp2
        go_roundw
        case rel => exact ⟨k + 1, by go_num, by omega, HM2, below_next hb k2⟩
        case measure => simp [intOf]; omega
    · obtain rfl : k = n := by omega
      have HE : Hid (∀ c ∈ l, isM c = false) := Lib.hid (by
        have h := HM.out
        rw [List.take_of_length_le (by rw [HLn.out]; exact Nat.le_refl _)] at h
        exact h)
      go_wp2
      go_ret
      exact ⟨⟨-1, rfl, .inl ⟨rfl, HE.out⟩⟩, hb⟩

theorem set_row {cu : Array Value} {N : Nat} {K R : List Nat} {x m i : Nat} (ht : cu.toList.take N = (K ++ m :: R).map nv) (hi : i = K.length) : (cu.setIfInBounds i (nv x)).toList.take N = (K ++ x :: R).map nv := by
  subst hi
  rw [Array.toList_setIfInBounds, List.take_set, ht]
  have h := set_mid (P := K.map nv) (R := R.map nv) (x := nv m) (y := nv x)
  rw [List.length_map] at h
  rw [List.map_append, List.map_cons, h, List.map_append, List.map_cons]

set_option maxRecDepth 100000 in
set_option maxHeartbeats 6400000 in
theorem delete_any (base : Nat) (v : Value) (l : List Nat) (w : World) (hS : Spans w) (hb0 : 0 < base) (hbw : base ≤ w.heap.size) (hl : l.length ≤ 1000000) (hown : w.ownsRow base 3 1 v l.length (l.map nv)) :
    Calls Tryd.prog 34 #[v, .func (.func 35) #[] #[]] w (OwnEnd base w (l.filter fun c => !isM c)) := by
  have hA := Arr.of_own hown
  obtain ⟨n, hn⟩ : ∃ n, l.length = n := ⟨_, rfl⟩
  obtain ⟨A, c, rfl⟩ := hA.form
  rw [hn] at hA hl ⊢
  have HI := Lib.hid (indexFunc_any A n c l w hS hA hl)
  have HLn := Lib.hid hn
  have HS := Lib.hid hS
  have hown0 : w.ownsRow base 3 1 (.slice A n c) n (l.map nv) := by rw [hn] at hown; exact hown
  have HO := Lib.hid hown0
  clear hn hA hS hown hown0
  go_enter Tryd.func34, Tryd.ntmps34
  go_wp2_with fail
  refine HI.out.mono ?_
  rintro e w1 ⟨⟨z, rfl, hz⟩, k1⟩
  rcases hz with ⟨rfl, hno⟩ | ⟨k, rfl, hk⟩
  · have HE : Hid (OwnEnd base w (l.filter fun c => !isM c) (.returned (.slice A n c)) w1) := Lib.hid (by
      have e : (l.filter fun c => !isM c) = l := List.filter_eq_self.2 fun c hc => by rw [hno c hc]; rfl
      rw [e]
      refine ⟨_, rfl, ?_, k1.mono hbw⟩
      rw [HLn.out]
      exact own_keep_below HO.out k1)
    clear hno
    go_wp2
    go_ret
    exact HE.out
  · obtain ⟨⟨x0, hx0, hm0⟩, hno⟩ := hk
    have hkn : k < n := by have := get_lt hx0; have := HLn.out; omega
    obtain ⟨g, cap, cur, hv, q1, q2, q3, q4, q5, q6⟩ := own_open HO.out (by omega)
    injection hv with hv1 hv2 hv3
    subst hv1 hv3
    have HR0 : Hid (Row w1 g c l) := Lib.hid (Row.below ⟨cur, q2, q5, by rw [HLn.out]; exact q6⟩ k1)
    have HC := Lib.hid (show c ≤ maxLen from q4)
    have hgw : g < w.heap.size := q2.lt
    have hg1 : w.grownBy w1 (some g) := grown_of_below (some g) k1
    have HK0 : Hid ((l.take k).filter (fun c => !isM c) = l.take k) := Lib.hid (List.filter_eq_self.2 fun c hc => by rw [hno c hc]; rfl)
    have HX0 : Hid (l[k]? = some x0 ∧ isM x0 = true) := Lib.hid ⟨hx0, hm0⟩
    have hsl := slice_tail (P := Tryd.prog) 27 elem_ints size_elem_int g 0
    simp only [Nat.zero_add] at hsl
    clear q2 q5 q6 q4 hno hx0 hm0
    have t0 : ((k : Int) == -1) = false := eqb_false (by omega)
    go_wp2
    go_loopw [5, 6, 7] (fun s5 s6 _ wr => ∃ (i j : Nat) (K M : List Nat), s5 = .int .i64 (i : Int) ∧ s6 = .int .i64 (j : Int) ∧ i < j ∧ j ≤ n ∧ Hid (K.length = i ∧ K.length + M.length = j) ∧ Hid (K = (l.take j).filter fun c => !isM c) ∧ Hid (Row wr g c (K ++ (M ++ l.drop j))) ∧ w.grownBy wr (some g)) (fun _ s6 _ _ => n - (intOf s6).toNat)
    case atStart =>
      refine ⟨k, k + 1, l.take k, [x0], rfl, by go_num, by omega, by omega, Lib.hid ?_, Lib.hid ?_, Lib.hid ?_, hg1⟩
      · have := HLn.out
        rw [List.length_take, List.length_singleton]
        omega
      · rw [take_next HX0.out.1, List.filter_append, HK0.out, List.filter_cons_of_neg (by rw [HX0.out.2]; simp)]
        simp
      · refine HR0.out.same ?_
        have h := dropN_at HX0.out.1
        conv => lhs; rw [← List.take_append_drop k l, h]
        simp
    case round =>
      obtain ⟨i, j, K, M, rfl, rfl, hij, hjn, HL, HK, HR, hg⟩ := hrel
      have hSp : Spans wr := HS.out.grown hg (by omega)
      by_cases hlt : j < n
      · have t1 : decide ((j : Int) < (n : Int)) = true := by simp; omega
        have jz : (j : Int) < (n : Int) := by omega
        have iz : (i : Int) < (n : Int) := by omega
        obtain ⟨x, hx⟩ := get_some (l := l) (i := j) (by have := HLn.out; omega)
        have hdr := dropN_at hx
        have d0 : wr.cell? ⟨g, j, none⟩ = some (.int .i64 (x : Int)) := HR.out.cell (by
          rw [← List.append_assoc, hdr]
          exact at_mid (by rw [List.length_append]; have := HL.out; omega))
        have HM := Lib.hid (prIsMark_any x wr hSp)
        cases hmk : isM x with
        | true =>
          rw [hmk] at HM
          have HK2 : Hid (K = (l.take (j + 1)).filter fun c => !isM c) := Lib.hid (by
            rw [take_next hx, List.filter_append, ← HK.out, List.filter_cons_of_neg (by rw [hmk]; simp)]
            simp)
          have HL2 : Hid (K.length = i ∧ K.length + (M ++ [x]).length = j + 1) := Lib.hid (by have := HL.out; rw [List.length_append, List.length_singleton]; omega)
          have HR1 : Hid (Row wr g c (K ++ ((M ++ [x]) ++ l.drop (j + 1)))) := Lib.hid (HR.out.same (by rw [hdr]; simp))
          clear hx hmk hdr hSp
          go_wp2_with fail
          refine HM.out.mono ?_
          rintro e w2 ⟨rfl, k2⟩
          have HR2 := Lib.hid (HR1.out.below k2)
          have hg2 := grown_trans hg (grown_of_below (some g) k2)
          go_wp2
          go_roundw
          case rel => exact ⟨i, j + 1, K, M ++ [x], rfl, by go_num, by omega, by omega, HL2, HK2, HR2, hg2⟩
          case measure => simp [intOf]; omega
        | false =>
          rw [hmk] at HM
          have hne : M ≠ [] := fun e => by have := HL.out; rw [e, List.length_nil] at this; omega
          obtain ⟨m, M', hM⟩ : ∃ m M', M = m :: M' := by
            cases M with
            | nil => exact absurd rfl hne
            | cons m M' => exact ⟨m, M', rfl⟩
          subst hM
          have HK2 : Hid (K ++ [x] = (l.take (j + 1)).filter fun c => !isM c) := Lib.hid (by
            rw [take_next hx, List.filter_append, ← HK.out, List.filter_cons_of_pos (by rw [hmk]; simp)]
            simp)
          have HL2 : Hid ((K ++ [x]).length = i + 1 ∧ (K ++ [x]).length + (M' ++ [x]).length = j + 1) := Lib.hid (by
            have := HL.out
            rw [List.length_cons] at this
            rw [List.length_append, List.length_append, List.length_singleton]
            omega)
          have HR1 : Hid (Row wr g c (K ++ m :: (M' ++ x :: l.drop (j + 1)))) := Lib.hid (HR.out.same (by rw [hdr]; simp))
          have hKi : i = K.length := HL.out.1.symm
          have HKi := Lib.hid hKi
          clear hx hmk hdr hSp hne hKi
          go_wp2_with fail
          refine HM.out.mono ?_
          rintro e w2 ⟨rfl, k2⟩
          obtain ⟨cu, c1, c2, c3⟩ := HR1.out.below k2
          obtain ⟨NN, hNN⟩ : ∃ NN, (K ++ m :: (M' ++ x :: l.drop (j + 1))).length = NN := ⟨_, rfl⟩
          rw [hNN] at c3
          have HSt : Hid ((cu.setIfInBounds i (nv x)).toList.take NN = (K ++ x :: (M' ++ x :: l.drop (j + 1))).map nv) := Lib.hid (set_row c3 HKi.out)
          have HNN : Hid (((K ++ [x]) ++ ((M' ++ [x]) ++ l.drop (j + 1))).length = NN) := Lib.hid (by rw [← hNN]; simp)
          have hg2 := grown_trans hg (grown_of_below (some g) k2)
          have d1 : w2.cell? ⟨g, i, none⟩ = some (.int .i64 (m : Int)) := (c1.cell _).trans (take_cell c3 (by rw [HKi.out]; simp))
          have f1 : w2.frozen? ⟨g, i, none⟩ = false := c1.free _
          clear c3 hNN
          go_wp2
          go_roundw
          case rel => exact ⟨i + 1, j + 1, K ++ [x], M' ++ [x], by go_num, by go_num, by omega, by omega, HL2, HK2, Lib.hid ⟨_, c1.put i (nv x), by simp [c2], by rw [HNN.out, HSt.out]; simp⟩, grown_set hg2 _ _⟩
          case measure => simp [intOf]; omega
      · obtain rfl : j = n := by omega
        have t1 : decide ((j : Int) < (j : Int)) = false := by simp
        obtain ⟨cu, c1, c2, c3⟩ := HR.out
        have hlen : (K ++ (M ++ l.drop j)).length = j := by
          have := HL.out
          have := HLn.out
          rw [List.length_append, List.length_append, List.length_drop]
          omega
        rw [hlen] at c3
        have hcell : ∀ t, t < j - i → (wr.cell? ⟨g, i + t, none⟩).isSome = true := fun t ht => by
          rw [c1.cell]
          have : i + t < cu.size := by omega
          rw [Array.getElem?_eq_getElem this]
          rfl
        have hcl : ∀ ty, (Builtin.clear_ #[27] ty #[.slice (some ⟨g, i, none⟩) (j - i) (c - i)]).run Tryd.prog wr = .ok (.tuple #[]) (wr.setCells g i (List.replicate (j - i) (.int .i64 0))) :=
          fun ty => Lib.run_clear_slice wr 27 3 ty (.int .i64 0) Tryd.underlying27 (fun _ => by kernel_rfl) rfl rfl g i (j - i) (c - i) (by omega) hcell (fun t _ => c1.free _)
        have hsli := hsl j i c (by omega) (by omega)
        have hhd := head_ints (some ⟨g, 0, none⟩) j c i (by omega)
        obtain ⟨cs', e1, e2, e3⟩ := box_cells (List.replicate (j - i) (.int .i64 0)) i wr cu c1
        have hg2 := grown_cells (List.replicate (j - i) (.int .i64 0)) i wr hg
        have HE : Hid (OwnEnd base w (l.filter fun c => !isM c) (.returned (.slice (some ⟨g, 0, none⟩) i c)) (wr.setCells g i (List.replicate (j - i) (.int .i64 0)))) := Lib.hid (by
          have ek : (l.filter fun c => !isM c) = K := by
            rw [HK.out, List.take_of_length_le (by rw [HLn.out]; exact Nat.le_refl _)]
          rw [ek]
          refine ⟨_, rfl, ?_, below_grown (Below.refl _ _) hg2 hbw fun g' hg' => (by cases hg'; exact q1)⟩
          refine own_M HL.out.1 q1 e1 (by omega) HC.out (by rw [e2, c2]) ?_
          rw [e3]
          have h5 := congrArg (List.take i) c3
          rw [List.take_take, Nat.min_eq_left (by omega), ← List.map_take, List.take_left' HL.out.1] at h5
          exact h5)
        obtain ⟨W9, hW9⟩ : ∃ W9, wr.setCells g i (List.replicate (j - i) (.int .i64 0)) = W9 := ⟨_, rfl⟩
        rw [hW9] at hcl HE
        clear hcell c1 c2 c3 hlen e1 e2 e3 hg2 hSp hW9 hsl
        go_wp2
        go_ret
        exact HE.out

end Go.Proofs.YtpgaebdaakllaaaDoor

namespace Go.Proofs.YtpgaebdaakllaaaDoor
open Go.RowKit

set_option maxRecDepth 20000 in
set_option maxHeartbeats 1600000 in
theorem prStrip_s (s : List UInt8) (w : World) (hS : Spans w) (hlen : s.length ≤ 5000) :
    Calls Tryd.prog 17 #[.string (str s)] w fun e w' => e = .returned (.string (str (nStrip s))) ∧ Below w.heap.size w w' := by
  have HD := Lib.hid (prDecom_any s w hS (by omega))
  have HS := Lib.hid hS
  have HL := Lib.hid (dcL_len s hlen)
  obtain ⟨R, hR⟩ : ∃ R, nStrip s = R := ⟨_, rfl⟩
  rw [hR]
  have HR : Hid (encL ((dcF (nL s)).filter fun c => !isM c) = R) := Lib.hid hR
  have HOK := Lib.hid (strip_ok s)
  obtain ⟨l, hl⟩ : ∃ l, dcF (nL s) = l := ⟨_, rfl⟩
  rw [hl] at HD HR HOK HL
  clear hR hl
  have hw0 := hS.lt
  clear hS
  go_enter Tryd.func17, Tryd.ntmps17
  go_wp2_with fail
  refine HD.out.mono ?_
  rintro e w1 ⟨v, rfl, hown, hb1⟩
  have HDl := Lib.hid (delete_any w.heap.size v l w1 (HS.out.below hb1) hw0 hb1.size (by have := HL.out; omega) hown)
  clear hown
  go_wp2_with fail
  refine HDl.out.mono ?_
  rintro e w2 ⟨v2, rfl, hown2, hb2⟩
  have hb2' := hb1.trans hb2
  have HE := Lib.hid (prEncS_any _ v2 _ w2 (HS.out.below hb2') hown2 HOK.out (by have := HL.out; have := List.length_filter_le (fun c => !isM c) l; omega))
  clear hown2
  go_wp2_with fail
  refine HE.out.mono ?_
  rintro e w3 ⟨rfl, hb3⟩
  go_wp2
  go_ret
  rw [HR.out]
  exact ⟨rfl, below_next hb2' hb3⟩

set_option maxRecDepth 20000 in
set_option maxHeartbeats 1600000 in
theorem prMarks_s (s : List UInt8) (w : World) (hS : Spans w) (hlen : s.length ≤ 5000) :
    Calls Tryd.prog 19 #[.string (str s)] w fun e w' => e = .returned (.int .i64 (nMarks s : Int)) ∧ Below w.heap.size w w' := by
  have HD := Lib.hid (prDecom_any s w hS (by omega))
  have HS := Lib.hid hS
  have HLL := Lib.hid (dcL_len s hlen)
  have HN : Hid (nMarks s = ((dcF (nL s)).filter isM).length) := Lib.hid rfl
  obtain ⟨l, hl⟩ : ∃ l, dcF (nL s) = l := ⟨_, rfl⟩
  rw [hl] at HD HN HLL
  clear hl hS
  go_enter Tryd.func19, Tryd.ntmps19
  go_wp2_with fail
  refine HD.out.mono ?_
  rintro e w1 ⟨v, rfl, hown, hb1⟩
  have hA := Arr.of_own hown
  obtain ⟨n, hn⟩ : ∃ n, l.length = n := ⟨_, rfl⟩
  have hll : n ≤ 10000 := by have := HLL.out; omega
  obtain ⟨A, c, rfl⟩ := hA.form
  rw [hn] at hA ⊢
  have HL := Lib.hid hn
  have HS1 := Lib.hid (HS.out.below hb1)
  clear hn hown HD
  go_wp2
  go_loopw [5, 7, 15] (fun m _ i wr => ∃ k m1 : Nat, k ≤ n ∧ i = .int .i64 (k : Int) ∧ m = .int .i64 (m1 : Int) ∧ Hid (((l.take k).filter isM).length = m1) ∧ m1 ≤ k ∧ Below w1.heap.size w1 wr) (fun _ _ i _ => n - (intOf i).toNat)
  case atStart => exact ⟨0, 0, by omega, rfl, rfl, Lib.hid rfl, by omega, Below.refl _ _⟩
  case round =>
    obtain ⟨k, m1, hk, rfl, rfl, HM, hmk, hb⟩ := hrel
    by_cases hlt : k < n
    · have i1 : decide ((k : Int) < (n : Int)) = true := by simp; omega
      obtain ⟨b0, o0, rfl, hB0, hc0⟩ := hA.some_ (by omega)
      obtain ⟨x, hx⟩ : ∃ a, l[k]? = some a := ⟨_, List.getElem?_eq_getElem (by have := HL.out; omega)⟩
      have d0 := (hb.cell (p := ⟨b0, o0 + k, none⟩) hB0).trans (hc0 k x hx)
      simp only [nv] at d0
      have kz : (k : Int) < (n : Int) := by omega
      have HC := Lib.hid (prIsMark_any x wr (HS1.out.below hb))
      have HF := filter_next (p := isM) hx
      cases hmx : isM x with
      | true =>
        rw [hmx] at HC
        have HM2 : Hid (((l.take (k + 1)).filter isM).length = m1 + 1) := Lib.hid (by rw [HF, if_pos hmx, List.length_append, HM.out]; rfl)
        clear hc0 hx hmx HF
        go_wp2_with fail
        refine HC.out.mono ?_
        rintro e w2 ⟨rfl, k2⟩
        go_wp2
        go_roundw
        case rel => exact ⟨k + 1, m1 + 1, by omega, by go_num, by go_num, HM2, by omega, below_next hb k2⟩
        case measure => simp [intOf]; omega
      | false =>
        rw [hmx] at HC
        have HM2 : Hid (((l.take (k + 1)).filter isM).length = m1) := Lib.hid (by rw [HF, if_neg (by rw [hmx]; simp), List.append_nil, HM.out])
        clear hc0 hx hmx HF
        go_wp2_with fail
        refine HC.out.mono ?_
        rintro e w2 ⟨rfl, k2⟩
        go_wp2
        go_roundw
        case rel => exact ⟨k + 1, m1, by omega, by go_num, rfl, HM2, by omega, below_next hb k2⟩
        case measure => simp [intOf]; omega
    · obtain rfl : k = n := by omega
      have HE : Hid (nMarks s = m1) := Lib.hid (by rw [HN.out, ← HM.out, List.take_of_length_le (by rw [HL.out]; omega)])
      go_wp2
      go_ret
      rw [HE.out]
      exact ⟨rfl, below_next hb1 hb⟩

set_option maxRecDepth 20000 in
set_option maxHeartbeats 1600000 in
theorem slEqual_any (A : Option Addr) (n c : Nat) (A' : Option Addr) (n' c' : Nat) (l l' : List Nat) (w : World) (hA : Arr nv w w.heap.size (.slice A n c) l) (hA' : Arr nv w w.heap.size (.slice A' n' c') l') (hn : n ≤ 1000000) (hn' : n' ≤ 1000000) :
    Calls Tryd.prog 36 #[.slice A n c, .slice A' n' c'] w fun e w' => e = .returned (.bool (decide (l = l'))) ∧ Below w.heap.size w w' := by
  have HL := Lib.hid hA.len
  have HL' := Lib.hid hA'.len
  obtain ⟨R, hR⟩ : ∃ R, decide (l = l') = R := ⟨_, rfl⟩
  rw [hR]
  have HR := Lib.hid hR
  clear hR
  by_cases hnn : n = n'
  · subst hnn
    have t0 : ((n : Int) != (n : Int)) = false := by simp
    go_enter Tryd.func36, Tryd.ntmps36
    go_wp2
    go_loopw [5, 13] (fun _ i wr => ∃ k q : Nat, k ≤ n ∧ i = .int .i64 (k : Int) ∧ Hid (l.take k = l'.take k) ∧ wr = w.drewN q) (fun _ i _ => n - (intOf i).toNat)
    case atStart => exact ⟨0, 0, by omega, rfl, Lib.hid rfl, rfl⟩
    case round =>
      obtain ⟨k, q, hk, rfl, HT, rfl⟩ := hrel
      by_cases hlt : k < n
      · have i1 : decide ((k : Int) < (n : Int)) = true := by simp; omega
        obtain ⟨b0, o0, rfl, hB0, hc0⟩ := hA.some_ (by omega)
        obtain ⟨b1, o1, rfl, hB1, hc1⟩ := hA'.some_ (by omega)
        obtain ⟨x, hx⟩ := get_some (l := l) (i := k) (by have := HL.out; omega)
        obtain ⟨y, hy⟩ := get_some (l := l') (i := k) (by have := HL'.out; omega)
        have d0 := hc0 k x hx
        have d1 := hc1 k y hy
        simp only [nv] at d0 d1
        have kz : (k : Int) < (n : Int) := by omega
        by_cases hxy : x = y
        · have t1 : ((x : Int) != (y : Int)) = false := by rw [hxy]; simp
          have HT2 : Hid (l.take (k + 1) = l'.take (k + 1)) := Lib.hid (by rw [take_next hx, take_next hy, HT.out, hxy])
          clear hc0 hc1 hx hy hxy
          go_wp2
          go_quiet (fail)
          go_wp2
          go_roundw
          case rel => exact ⟨k + 1, q + nq, by omega, by go_num, HT2, by first | rfl | rw [World.drewN_drewN]⟩
          case measure => simp [intOf]; omega
        · have t1 : ((x : Int) != (y : Int)) = true := by simp; omega
          have HE : Hid (R = false) := Lib.hid (by
            rw [← HR.out]
            refine decide_eq_false fun e => hxy ?_
            rw [e, hy] at hx
            exact (Option.some.inj hx).symm)
          clear hc0 hc1 hx hy hxy
          go_wp2
          go_quiet (fail)
          go_wp2
          go_ret
          rw [HE.out]
          exact ⟨rfl, by first | exact below_drewN (below_drewN (Below.refl _ _) _) _ | exact below_drewN (Below.refl _ _) _⟩
      · obtain rfl : k = n := by omega
        have HE : Hid (R = true) := Lib.hid (by
          rw [← HR.out]
          have h := HT.out
          rw [List.take_of_length_le (by rw [HL.out]; omega), List.take_of_length_le (by rw [HL'.out]; omega)] at h
          exact decide_eq_true h)
        go_wp2
        go_ret
        rw [HE.out]
        exact ⟨rfl, below_drewN (Below.refl _ _) _⟩
  · have t0 : ((n : Int) != (n' : Int)) = true := by simp; omega
    have HE : Hid (R = false) := Lib.hid (by
      rw [← HR.out]
      refine decide_eq_false fun e => hnn ?_
      rw [← HL.out, ← HL'.out, e])
    go_enter Tryd.func36, Tryd.ntmps36
    go_wp2
    go_ret
    rw [HE.out]
    exact ⟨rfl, Below.refl _ _⟩

theorem nEq_dc {s t : List UInt8} (h1 : (decR s).isSome = true) (h2 : (decR t).isSome = true) : nEq s t = decide (dcF (nL s) = dcF (nL t)) := by
  unfold nEq
  rw [h1, h2]
  by_cases h : dcF (nL s) = dcF (nL t)
  · rw [decide_eq_true h]
    have : nD s = nD t := by unfold nD; rw [h]
    rw [decide_eq_true this]
    rfl
  · rw [decide_eq_false h]
    have : ¬ nD s = nD t := fun e => h (nD_inj e)
    rw [decide_eq_false this]
    rfl

set_option maxRecDepth 20000 in
set_option maxHeartbeats 3200000 in
theorem prEqual_s (s t : List UInt8) (w : World) (hS : Spans w) (hlen : s.length ≤ 5000) (hlen2 : t.length ≤ 5000) :
    Calls Tryd.prog 21 #[.string (str s), .string (str t)] w fun e w' => e = .returned (.bool (nEq s t)) ∧ Below w.heap.size w w' := by
  have HD := Lib.hid (prDecom_any s w hS (by omega))
  have HT := Lib.hid (fun W (h : Spans W) => prDecom_any t W h (by omega))
  have HS := Lib.hid hS
  have HL1 := Lib.hid (dcL_len s hlen)
  have HL2 := Lib.hid (dcL_len t hlen2)
  obtain ⟨R, hR⟩ : ∃ R, nEq s t = R := ⟨_, rfl⟩
  rw [hR]
  have HR := Lib.hid hR
  have HQ := Lib.hid (fun h1 h2 => nEq_dc (s := s) (t := t) h1 h2)
  have HN : Hid ((decR s).isSome = false ∨ (decR t).isSome = false → nEq s t = false) := Lib.hid (by
    intro h
    unfold nEq
    rcases h with h | h
    · rw [h]; rfl
    · rw [h]; simp)
  obtain ⟨l1, hl1⟩ : ∃ l, dcF (nL s) = l := ⟨_, rfl⟩
  obtain ⟨l2, hl2⟩ : ∃ l, dcF (nL t) = l := ⟨_, rfl⟩
  rw [hl1] at HD HQ HL1
  rw [hl2] at HT HQ HL2
  clear hR hl1 hl2 hS
  cases h1 : (decR s).isSome with
  | false =>
    rw [h1] at HD
    have HE : Hid (R = false) := Lib.hid (by rw [← HR.out]; exact HN.out (.inl h1))
    clear h1
    go_enter Tryd.func21, Tryd.ntmps21
    go_wp2_with fail
    refine HD.out.mono ?_
    rintro e w1 ⟨v, rfl, _, hb1⟩
    go_wp2_with fail
    refine (HT.out _ (HS.out.below hb1)).mono ?_
    rintro e w2 ⟨v2, rfl, _, hb2⟩
    go_wp2
    all_goals
      go_ret
      rw [HE.out]
      exact ⟨rfl, below_next hb1 hb2⟩
  | true =>
    rw [h1] at HD
    cases h2 : (decR t).isSome with
    | false =>
      rw [h2] at HT
      have HE : Hid (R = false) := Lib.hid (by rw [← HR.out]; exact HN.out (.inr h2))
      clear h1 h2
      go_enter Tryd.func21, Tryd.ntmps21
      go_wp2_with fail
      refine HD.out.mono ?_
      rintro e w1 ⟨v, rfl, _, hb1⟩
      go_wp2_with fail
      refine (HT.out _ (HS.out.below hb1)).mono ?_
      rintro e w2 ⟨v2, rfl, _, hb2⟩
      go_wp2
      all_goals
        go_ret
        rw [HE.out]
        exact ⟨rfl, below_next hb1 hb2⟩
    | true =>
      rw [h2] at HT
      have HE : Hid (R = decide (l1 = l2)) := Lib.hid (by rw [← HR.out]; exact HQ.out h1 h2)
      clear h1 h2
      obtain ⟨z, hz⟩ : ∃ z, decide (l1 = l2) = z := ⟨_, rfl⟩
      have HZ := Lib.hid hz
      clear hz
      go_enter Tryd.func21, Tryd.ntmps21
      go_wp2_with fail
      refine HD.out.mono ?_
      rintro e w1 ⟨v, rfl, hown1, hb1⟩
      go_wp2_with fail
      refine (HT.out _ (HS.out.below hb1)).mono ?_
      rintro e w2 ⟨v2, rfl, hown2, hb2⟩
      have hA1 := (Arr.of_own hown1).up hb2
      have hA2 := Arr.of_own hown2
      obtain ⟨A1, c1, rfl⟩ := hA1.form
      obtain ⟨A2, c2, rfl⟩ := hA2.form
      have HEq := Lib.hid (slEqual_any A1 _ c1 A2 _ c2 l1 l2 w2 hA1 hA2 (by have := HL1.out; omega) (by have := HL2.out; omega))
      rw [HZ.out] at HEq
      clear hown1 hown2 hA1 hA2
      go_wp2_with fail
      refine HEq.out.mono ?_
      rintro e w3 ⟨rfl, hb3⟩
      go_wp2
      go_ret
      rw [HE.out, HZ.out]
      exact ⟨rfl, below_next (below_next hb1 hb2) hb3⟩

end Go.Proofs.YtpgaebdaakllaaaDoor
