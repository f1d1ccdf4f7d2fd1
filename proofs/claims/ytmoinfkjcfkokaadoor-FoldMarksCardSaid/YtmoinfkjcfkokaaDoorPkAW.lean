/-
  The body of FoldMarks.
  The laws' bodies at arguments as the model holds them.
  Arguments that came in: slices of integers as lists, strings.
-/
import Derived.Test.YtmoinfkjcfkokaaDoorPkAV
import Derived.Test.YtmoinfkjcfkokaaDoorPkAH
import Derived.Test.YtmoinfkjcfkokaaDoorWords
import Derived.ProofKit
import Derived.OpenShut
import Derived.SliceStrings
import Derived.ChangeArms
namespace Go.Proofs.YtmoinfkjcfkokaaDoor
open Go.RowKit

/-- append onto a row of the call's own as a step of a region that draws its order: where the new row lies. -/
theorem step_ints_where {ops : Array Oper} {o : Oper} {a : Act} {K : Act → World → Prop} {Q : Exit → Act → World → Prop} {E : Prop} (w : World) (hgd : o.guard = none) (s x : Operand)
    (ho : o.op = .call { callee := .builtin .append, args := #[s, x], argTypes := #[28, 28] })
    (base B : Nat) (v : Value) (xs : List Nat) (hs : a.eval s = v) (hown : w.ownsRow base 3 1 v xs.length (xs.map nv))
    (news : List Nat) (h0 : news ≠ []) (src : Value) (hx : a.eval x = src) (hsl : Arr nv w B src news) (hlen : xs.length + news.length ≤ 1000000000000) (hbase : base ≤ w.heap.size)
    (h : ∀ v' w', w'.ownsRow base 3 1 v' (xs ++ news).length ((xs ++ news).map nv) → w.grownBy w' v.ownBlock → (∀ g, v'.ownBlock = some g → v.ownBlock = some g ∨ w.heap.size ≤ g) → K (a.put o.dst v') w') :
    if Region.wanted o (yielded ops a.tmps) = true then Oper.wp Tryd.prog o a w K Q else E := by
  have hw : Region.wanted o (yielded ops a.tmps) = true := by simp [Region.wanted, hgd]
  rw [if_pos hw]
  obtain ⟨i0, hi, hz0, hz1, hz2⟩ := info_parts info_int
  rcases hsl with ⟨rfl, rfl⟩ | ⟨ad, c, rfl, _, _, hc⟩
  · exact absurd rfl h0
  · have hcell : ∀ j u, (news.map nv)[j]? = some u → w.cell? (ad.add j) = some u := by
      intro j u hu
      rw [List.getElem?_map] at hu
      cases hj : news[j]? with
      | none => rw [hj] at hu; simp at hu
      | some y => rw [hj] at hu; simp at hu; rw [hc j y hj, hu]
    have hpos : 0 < news.length := List.length_pos_iff.2 h0
    obtain ⟨v', w', hr, h2, h3, h4⟩ := run_append_where (P := Tryd.prog) w base 28 o.type 3 i0 (.int .i64 0) 8 Tryd.underlying28 hi hz0 hz1 hz2 rfl v xs.length (xs.map nv) hown ad news.length c (news.map nv) (by simp) hpos hcell
      (by intro u hu; obtain ⟨y, _, rfl⟩ := List.mem_map.1 hu; exact one_nv y) (by unfold maxLen; omega) (by have := Nat.mul_le_mul hlen (Nat.le_refl 8); omega) hbase
    unfold Oper.wp execOp
    simp only [ho, resolve, invoke, builtin, Sem.run_bind, Sem.run_pure, Result.andThen_ok, List.map_toArray, List.map_cons, List.map_nil, hs, hx, hr]
    exact h v' w' (by rw [List.length_append, List.map_append]; exact h2) h3 h4
theorem own_at {W : World} {g base : Nat} (hg : base ≤ g) (hb : W.heap[g]? = some (.cells #[] 3 (0, 0))) : W.ownsRow base 3 1 (.slice (some ⟨g, 0, none⟩) 0 0) ([] : List Nat).length (([] : List Nat).map nv) :=
  ⟨by simp, .inr ⟨g, 0, _, rfl, hg, hb, Nat.le_refl _, by unfold maxLen; omega, by simp, by simp⟩⟩
theorem arr_one_at {W : World} {g : Nat} {y : Nat} (hb : W.heap[g]? = some (.cells #[.int .i64 (y : Int)] 3 (0, 0))) : Arr nv W (g + 1) (.slice (some ⟨g, 0, none⟩) 1 1) [y] :=
  Arr.of_box (val := nv) (xs := [y]) (n := 1) (c := 1) hb rfl (Nat.le_refl _) fun i u hu => by
    cases i with
    | zero => simp at hu; subst hu; rfl
    | succ i => simp at hu
theorem below_own {B : Nat} {a W w' : World} {base : Nat} {v : Value} {n : Nat} {xs : List Value} (h : Below B a W) (hown : W.ownsRow base 3 1 v n xs) (hB : B ≤ base) (ha : B ≤ a.heap.size) (hg : W.grownBy w' v.ownBlock) : Below B a w' :=
  below_grown h hg ha fun g hg' => Nat.le_trans hB (hown.lt g hg').1
/-- append of two rows of digits as a step of a region. -/
theorem step_ints {ops : Array Oper} {o : Oper} {a : Act} {K : Act → World → Prop} {Q : Exit → Act → World → Prop} {E : Prop} (w : World) (hgd : o.guard = none) (s x : Operand)
    (ho : o.op = .call { callee := .builtin .append, args := #[s, x], argTypes := #[28, 28] })
    (base B : Nat) (v : Value) (xs : List Nat) (hs : a.eval s = v) (hown : w.ownsRow base 3 1 v xs.length (xs.map nv))
    (news : List Nat) (src : Value) (hx : a.eval x = src) (hsl : Arr nv w B src news) (hlen : xs.length + news.length ≤ 1000000000000) (hbase : base ≤ w.heap.size)
    (h : ∀ v' w', w'.ownsRow base 3 1 v' (xs ++ news).length ((xs ++ news).map nv) → Below base w w' → K (a.put o.dst v') w') :
    if Region.wanted o (yielded ops a.tmps) = true then Oper.wp Tryd.prog o a w K Q else E :=
  step_append 28 3 (.int .i64 0) 8 Tryd.underlying28 info_int rfl (by decide) one_nv w hgd s x ho base B v xs hs hown news src hx hsl hlen hbase h
theorem below_next' {B : Nat} {a b c : World} (h : Below B a b) (k : Below B b c) : Below B a c := h.trans k
/-- Its tail, whatever its capacity. -/
theorem tail_any {w : World} {B b o n c : Nat} {l : List Nat} (h : Arr nv w B (.slice (some ⟨b, o, none⟩) n c) l) (k : Nat) (hk : k ≤ n) :
    ∃ V, (∀ W : World, (Instr.sliceAt 28 (.slice (some ⟨b, o, none⟩) n c) (some (.int .i64 (k : Int))) none none).run Tryd.prog W = .ok V W) ∧ ∀ v, (∀ p : Addr, p.block < B → v.cell? p = w.cell? p) → Arr nv v B V (l.drop k) := by
  have hl := h.len
  have hcap := h.cap
  by_cases hkc : k < c
  · refine ⟨_, fun W => slice_tail _ elem_ints size_elem_int b o n k c hk hkc W, fun v hv => ?_⟩
    rcases h.keep hv with ⟨e, _⟩ | ⟨a, c', e, _, hb, hc⟩
    · cases e
    · injection e with e1 e2 e3
      injection e1 with e1
      subst e1 e3
      refine .inr ⟨⟨b, o + k, none⟩, c - k, by rw [List.length_drop, hl], by rw [List.length_drop]; omega, fun h0 => by rw [List.length_drop] at h0; exact hb (by omega), fun i u hu => ?_⟩
      rw [List.getElem?_drop] at hu
      have := hc (k + i) u hu
      rw [add_plain] at this ⊢
      rw [Nat.add_assoc]
      exact this
  · obtain rfl : k = n := by omega
    obtain rfl : k = c := by omega
    refine ⟨.slice (some ⟨b, o, none⟩) 0 0, fun W => ?_, fun v _ => ?_⟩
    · rw [run_sliceAt_slice W _ _ _ _ _ elem_ints, run_slice_l W _ _ k k elem_ints .i64 (k : Int) (by omega) (by omega), size_elem_int]
      simp [Result.andThen, sliced]
    · rw [List.drop_of_length_le (by omega)]
      exact .inr ⟨⟨b, o, none⟩, 0, rfl, by simp, by simp, by simp⟩

set_option maxRecDepth 100000 in
set_option maxHeartbeats 6400000 in
theorem foldMarks_v (A : Option Addr) (n c : Nat) (xs : List Int) (a m : Nat) (w : World) (hS : Ready6 w) (h : Arr iv w w.heap.size (.slice A n c) xs) (hn : n ≤ 1000000000000000000) (ha : a < 256) (hm : m < 256) :
    Calls Tryd.prog 9 #[.slice A n c, .int .u8 (a : Int), .int .u8 (m : Int)] w fun e w' => e = .returned (.bool true) ∧ Below w.heap.size w w' := by
  have hxl := h.len
  cases hr : xs.all hasR with
  | false =>
    have HE : Hid (encR xs = none) := Lib.hid (by unfold encR; rw [if_neg]; rw [hr]; decide)
    clear hr hxl
    go_enter Tryd.func9, Tryd.ntmps9
    go_wp2_with fail
    refine (awake6_any _ hS).mono ?_
    rintro e w1 ⟨rfl, k1⟩
    have h1 := h.up k1
    go_wp2_with fail
    refine (encode_at w A n c xs w1 k1 h1 hn).mono ?_
    rintro e w2 ⟨he, k2, n2⟩
    rw [HE.out] at he
    obtain rfl := show e = _ from he
    go_wp2
    go_ret
    exact ⟨rfl, k2⟩
  | true =>
    obtain ⟨l, rfl, hl⟩ := all_nats xs hr
    rw [List.length_map] at hxl
    have hok : ∀ x ∈ l, okC x := fun x hx => ok_of_has (hl x hx)
    have HE : Hid (encR (l.map fun d : Nat => (d : Int)) = some (encL l)) := Lib.hid (encR_nats hok)
    obtain ⟨S, hSS⟩ : ∃ S, encL l = S := ⟨_, rfl⟩
    rw [hSS] at HE
    by_cases h20 : 20 < n
    · have t1 : decide (20 < (n : Int)) = true := by simp; omega
      clear hr hxl hok hl hSS
      go_enter Tryd.func9, Tryd.ntmps9
      go_wp2_with fail
      refine (awake6_any _ hS).mono ?_
      rintro e w1 ⟨rfl, k1⟩
      have h1 := h.up k1
      go_wp2_with fail
      refine (encode_at w A n c _ w1 k1 h1 hn).mono ?_
      rintro e w2 ⟨he, k2, n2⟩
      rw [HE.out] at he
      obtain rfl := show e = _ from he
      go_wp2
      go_ret
      exact ⟨rfl, k2⟩
    have t1 : decide (20 < (n : Int)) = false := by simp; omega
    by_cases h0 : n = 0
    · have t2 : ((n : Int) == 0) = true := eqb_true (by omega)
      clear hr hxl hok hl hSS h0
      go_enter Tryd.func9, Tryd.ntmps9
      go_wp2_with fail
      refine (awake6_any _ hS).mono ?_
      rintro e w1 ⟨rfl, k1⟩
      have h1 := h.up k1
      go_wp2_with fail
      refine (encode_at w A n c _ w1 k1 h1 hn).mono ?_
      rintro e w2 ⟨he, k2, n2⟩
      rw [HE.out] at he
      obtain rfl := show e = _ from he
      go_wp2
      go_ret
      exact ⟨rfl, k2⟩
    have t2 : ((n : Int) == 0) = false := eqb_false (by omega)
    obtain ⟨K, hK⟩ : ∃ K, a % n = K := ⟨_, rfl⟩
    have hKn : K < n := by rw [← hK]; exact Nat.mod_lt _ (by omega)
    have hmod : (a : Int).tmod (n : Int) = (K : Int) := by rw [Int.tmod_eq_emod_of_nonneg (by omega), ← hK]; exact (Int.natCast_emod a n).symm
    have hmod2 : (a : Int) % (n : Int) = (K : Int) := by rw [← hK]; exact (Int.natCast_emod a n).symm
    obtain ⟨k, hk⟩ : ∃ k, 1 + K = k := ⟨_, rfl⟩
    have hkn : k ≤ n := by omega
    have hk1 : 1 ≤ k := by omega
    have e1 : (1 : Int) + (K : Int) = (k : Int) := by omega
    obtain ⟨y, hy⟩ : ∃ y, 768 + m % 3 = y := ⟨_, rfl⟩
    have hy1 : 768 ≤ y := by omega
    have hy2 : y ≤ 770 := by omega
    obtain ⟨r, hr3⟩ : ∃ r, m % 3 = r := ⟨_, rfl⟩
    have e2 : (m : Int).tmod 3 = (r : Int) := by rw [Int.tmod_eq_emod_of_nonneg (by omega)]; omega
    have e2' : (m : Int) % 3 = (r : Int) := by omega
    have e3 : (768 : Int) + (r : Int) = (y : Int) := by omega
    have hP : ∀ z ∈ l.take k, hasN z = true := fun z hz => hl z (List.mem_of_mem_take hz)
    have hQ : ∀ z ∈ l.drop k, hasN z = true := fun z hz => hl z (List.mem_of_mem_drop hz)
    have hok2 : ∀ z ∈ l.take k ++ y :: l.drop k, okC z := by
      intro z hz
      rcases List.mem_append.1 hz with hz | hz
      · exact ok_of_has (hP z hz)
      · rcases List.mem_cons.1 hz with rfl | hz
        · exact ok_of_has (three_marks hy1 hy2).2
        · exact ok_of_has (hQ z hz)
    obtain ⟨T, hT⟩ : ∃ T, encL (l.take k ++ y :: l.drop k) = T := ⟨_, rfl⟩
    obtain ⟨s, hs⟩ : ∃ s, nSearch S = s := ⟨_, rfl⟩
    have hs2 : nSearch T = s := by
      rw [← hs, ← hT, ← hSS]
      unfold nSearch
      rw [nSL_marks (l.take k) (l.drop k) hP hQ hy1 hy2, List.take_append_drop]
    have hSl : S.length ≤ 5000 := by rw [← hSS]; have := encL_len l; omega
    have hTl : T.length ≤ 5000 := by
      rw [← hT]
      have := encL_len (l.take k ++ y :: l.drop k)
      rw [List.length_append, List.length_cons, List.length_take, List.length_drop] at this
      omega
    have HEq : Hid (encR ((l.take k ++ y :: l.drop k).map fun d : Nat => (d : Int)) = some T) := Lib.hid (by rw [← hT]; exact encR_nats hok2)
    have Hxl := Lib.hid hxl
    have HSe : Hid (∀ (W v : World) (u : List UInt8), Ready6 W → Below W.heap.size W v → (u = S ∨ u = T) → Calls Tryd.prog 13 #[.string (str u)] v fun e w' => e = .returned (.string (str s)) ∧ Below W.heap.size W w' ∧ Below v.heap.size v w') := Lib.hid (by
      intro W v u hW hv hu
      rcases hu with rfl | rfl
      · exact prSearch_at W hW u s v hv hSl hs
      · exact prSearch_at W hW u s v hv hTl hs2)
    have qs := same_str6 s
    have HS := Lib.hid hS
    have HTk : Hid (l.take k ≠ [] ∧ (l.take k).length = k ∧ (l.drop k).length ≤ 20) := Lib.hid ⟨fun e => by have := congrArg List.length e; rw [List.length_take, List.length_nil] at this; omega, by rw [List.length_take]; omega, by rw [List.length_drop]; omega⟩
    clear hr hxl hok hl hSS hK hP hQ hok2 hT hs hs2 h0 hr3 hy hk
    go_enter Tryd.func9, Tryd.ntmps9
    go_wp2_with fail
    refine (awake6_any _ hS).mono ?_
    rintro e w1 ⟨rfl, k1⟩
    have h1 := h.up k1
    go_wp2_with fail
    refine (encode_at w A n c _ w1 k1 h1 hn).mono ?_
    rintro e w2 ⟨he, k2, n2⟩
    rw [HE.out] at he
    obtain rfl := show e = _ from he
    have h4 : Arr nv w2 w.heap.size (.slice A n c) l := (h.nat).at_ k2
    obtain ⟨b1, o1, rfl, hB1, _⟩ := h4.some_ (by omega)
    obtain ⟨V, hV1, hV2⟩ := tail_any h4 k hkn
    have hhead : ∀ W : World, (Instr.sliceAt 28 (.slice (some ⟨b1, o1, none⟩) n c) none (some (.int .i64 (k : Int))) none).run Tryd.prog W = .ok (.slice (some ⟨b1, o1, none⟩) k c) W := fun W => head_ints _ n c k (by have := h4.cap; omega) W
    have HHd : Hid (∀ v, Below w.heap.size w2 v → Arr nv v w.heap.size (.slice (some ⟨b1, o1, none⟩) k c) (l.take k) ∧ Arr nv v w.heap.size V (l.drop k)) := Lib.hid fun v hv => ⟨(h4.head (N := k) hkn).below hv, hV2 v (fun p hp => hv.cell hp)⟩
    have k2s := k2.size
    clear h1 h h4 hV2
    have e4 : IntKind.i64.wrap (m : Int) = (m : Int) := wraps_i64 _ (by omega) (by omega)
    have e5 : IntKind.i64.wrap (y : Int) = (y : Int) := wraps_i64 _ (by omega) (by omega)
    have k0 : (0 : Int) ≤ (k : Int) := by omega
    have hE1 := Below.refl w.heap.size w2
    have hA1 := heap_alloc_new w2 (.cells #[] 3)
    have hA2 : ((w2.alloc (.cells #[] 3)).alloc (.cells #[.int .i64 (y : Int)] 3)).heap[w2.heap.size]? = some (.cells #[] 3 (0, 0)) := (Lib.alloc_old _ _ _ (by simp)).trans hA1
    have hA3 : ((w2.alloc (.cells #[.int .i64 (y : Int)] 3)).alloc (.cells #[] 3)).heap[w2.heap.size + 1]? = some (.cells #[] 3 (0, 0)) := by
      have := heap_alloc_new (w2.alloc (.cells #[.int .i64 (y : Int)] 3)) (.cells #[] 3)
      simpa using this
    have hC2 : ((w2.alloc (.cells #[] 3)).alloc (.cells #[.int .i64 (y : Int)] 3)).heap[w2.heap.size + 1]? = some (.cells #[.int .i64 (y : Int)] 3 (0, 0)) := by
      have := heap_alloc_new (w2.alloc (.cells #[] 3)) (.cells #[.int .i64 (y : Int)] 3)
      simpa using this
    have hC3 : ((w2.alloc (.cells #[.int .i64 (y : Int)] 3)).alloc (.cells #[] 3)).heap[w2.heap.size]? = some (.cells #[.int .i64 (y : Int)] 3 (0, 0)) := (Lib.alloc_old _ _ _ (by simp)).trans (heap_alloc_new w2 _)
    have b1' : Below w.heap.size w2 (w2.alloc (.cells #[] 3)).drew := (hE1.alloc k2s _).drew
    have b2' : Below w.heap.size w2 ((w2.alloc (.cells #[] 3)).alloc (.cells #[.int .i64 (y : Int)] 3)).drew := ((hE1.alloc k2s _).alloc (by simp; omega) _).drew
    have b3' : Below w.heap.size w2 ((w2.alloc (.cells #[.int .i64 (y : Int)] 3)).alloc (.cells #[] 3)).drew := ((hE1.alloc k2s _).alloc (by simp; omega) _).drew
    have hlen : ([] : List Nat).length + (l.take k).length ≤ 1000000000000 := by rw [HTk.out.2.1]; simp; omega
    have o1' : (w2.alloc (.cells #[] 3)).drew.ownsRow w2.heap.size 3 1 (.slice (some ⟨w2.heap.size, 0, none⟩) 0 0) ([] : List Nat).length (([] : List Nat).map nv) := own_at (Nat.le_refl _) hA1
    have o2' : ((w2.alloc (.cells #[] 3)).alloc (.cells #[.int .i64 (y : Int)] 3)).drew.ownsRow w2.heap.size 3 1 (.slice (some ⟨w2.heap.size, 0, none⟩) 0 0) ([] : List Nat).length (([] : List Nat).map nv) := own_at (Nat.le_refl _) hA2
    have o3' : ((w2.alloc (.cells #[.int .i64 (y : Int)] 3)).alloc (.cells #[] 3)).drew.ownsRow w2.heap.size 3 1 (.slice (some ⟨w2.heap.size + 1, 0, none⟩) 0 0) ([] : List Nat).length (([] : List Nat).map nv) := own_at (Nat.le_succ _) hA3
    have HLn : Hid ((([] : List Nat) ++ l.take k).length + [y].length ≤ 1000000000000 ∧ ((([] : List Nat) ++ l.take k) ++ [y]).length + (l.drop k).length ≤ 1000000000000 ∧ (l.take k ++ y :: l.drop k).length ≤ 100) := Lib.hid (by
      have h1 := HTk.out.2.1
      have h2 := HTk.out.2.2
      refine ⟨?_, ?_, ?_⟩
      · rw [List.nil_append, List.length_singleton]; omega
      · rw [List.nil_append, List.length_append, List.length_singleton]; omega
      · rw [List.length_append, List.length_cons]; omega)
    have H1 := Lib.hid (And.intro o1' (And.intro (HHd.out _ b1').1 (And.intro hlen (And.intro (show w2.heap.size ≤ (w2.alloc (.cells #[] 3)).drew.heap.size by simp) b1'))))
    have H2 := Lib.hid (And.intro o2' (And.intro (HHd.out _ b2').1 (And.intro hlen (And.intro (show w2.heap.size ≤ ((w2.alloc (.cells #[] 3)).alloc (.cells #[.int .i64 (y : Int)] 3)).drew.heap.size by simp; omega) (And.intro b2' hC2)))))
    have H3 := Lib.hid (And.intro o3' (And.intro (HHd.out _ b3').1 (And.intro hlen (And.intro (show w2.heap.size ≤ ((w2.alloc (.cells #[.int .i64 (y : Int)] 3)).alloc (.cells #[] 3)).drew.heap.size by simp; omega) (And.intro b3' hC3)))))
    clear hE1 hA1 hA2 hA3 hC2 hC3 b1' b2' b3' hlen o1' o2' o3'
    go_wp2
    go_region_law (first
      | (refine step_ints_where _ rfl (.tmp 38) (.tmp 41) rfl w2.heap.size w.heap.size (.slice (some ⟨w2.heap.size, 0, none⟩) 0 0) [] rfl H1.out.1 (l.take k) HTk.out.1 (.slice (some ⟨b1, o1, none⟩) k c) rfl H1.out.2.1 H1.out.2.2.1 H1.out.2.2.2.1 ?_; intro r1 w4 hown4 hg4 hw4; have hb4 := below_own H1.out.2.2.2.2 H1.out.1 k2s k2s hg4; have hs4 : w2.heap.size ≤ w4.heap.size := (by have := hg4.size; have := H1.out.2.2.2.1; omega); have O48 := own_keep_below hown4 ((Below.refl w4.heap.size w4).alloc (Nat.le_refl _) (.cells #[.int .i64 (y : Int)] 3)); have X48 := arr_one_at (heap_alloc_new w4 (.cells #[.int .i64 (y : Int)] 3)); have B48 : w2.heap.size ≤ (w4.alloc (.cells #[.int .i64 (y : Int)] 3)).heap.size := Nat.le_trans hs4 (by simp); have hb48 := hb4.alloc (by omega) (.cells #[.int .i64 (y : Int)] 3))
      | (refine step_ints_where _ rfl (.tmp 38) (.tmp 41) rfl w2.heap.size w.heap.size (.slice (some ⟨w2.heap.size, 0, none⟩) 0 0) [] rfl H2.out.1 (l.take k) HTk.out.1 (.slice (some ⟨b1, o1, none⟩) k c) rfl H2.out.2.1 H2.out.2.2.1 H2.out.2.2.2.1 ?_; intro r1 w4 hown4 hg4 hw4; have hb48 := below_own H2.out.2.2.2.2.1 H2.out.1 k2s k2s hg4; have B48 : w2.heap.size ≤ w4.heap.size := (by have := hg4.size; have := H2.out.2.2.2.1; omega); have O48 := hown4; have X48 := arr_one_at ((hg4.block (w2.heap.size + 1) (by simp) (by simp [Value.ownBlock])).trans H2.out.2.2.2.2.2))
      | (refine step_ints_where _ rfl (.tmp 38) (.tmp 41) rfl w2.heap.size w.heap.size (.slice (some ⟨w2.heap.size + 1, 0, none⟩) 0 0) [] rfl H3.out.1 (l.take k) HTk.out.1 (.slice (some ⟨b1, o1, none⟩) k c) rfl H3.out.2.1 H3.out.2.2.1 H3.out.2.2.2.1 ?_; intro r1 w4 hown4 hg4 hw4; have hb48 := below_own H3.out.2.2.2.2.1 H3.out.1 k2s k2s hg4; have B48 : w2.heap.size ≤ w4.heap.size := (by have := hg4.size; have := H3.out.2.2.2.1; omega); have O48 := hown4; have X48 := arr_one_at ((hg4.block w2.heap.size (by first | (simp; done) | (simp; omega)) (by simp [Value.ownBlock])).trans H3.out.2.2.2.2.2))
      | (refine step_ints _ rfl (.tmp 42) (.tmp 47) rfl w2.heap.size (w4.heap.size + 1) r1 ([] ++ l.take k) rfl O48 [y] (.slice (some ⟨w4.heap.size, 0, none⟩) 1 1) rfl X48 HLn.out.1 B48 ?_; intro r2 w5 hown5 hb5; have hbw5 := hb48.trans (hb5.mono k2s); have B52 := Nat.le_trans B48 hb5.size)
      | (refine step_ints _ rfl (.tmp 42) (.tmp 47) rfl w2.heap.size (w2.heap.size + 1 + 1) r1 ([] ++ l.take k) rfl O48 [y] (.slice (some ⟨w2.heap.size + 1, 0, none⟩) 1 1) rfl X48 HLn.out.1 B48 ?_; intro r2 w5 hown5 hb5; have hbw5 := hb48.trans (hb5.mono k2s); have B52 := Nat.le_trans B48 hb5.size)
      | (refine step_ints _ rfl (.tmp 42) (.tmp 47) rfl w2.heap.size (w2.heap.size + 1) r1 ([] ++ l.take k) rfl O48 [y] (.slice (some ⟨w2.heap.size, 0, none⟩) 1 1) rfl X48 HLn.out.1 B48 ?_; intro r2 w5 hown5 hb5; have hbw5 := hb48.trans (hb5.mono k2s); have B52 := Nat.le_trans B48 hb5.size)
      | (refine step_ints _ rfl (.tmp 48) (.tmp 51) rfl w2.heap.size w.heap.size r2 (([] ++ l.take k) ++ [y]) rfl hown5 (l.drop k) V rfl (HHd.out _ hbw5).2 HLn.out.2.1 B52 ?_; intro r3 w6 hown6 hb6; have hbw6 := hbw5.trans (hb6.mono k2s)))
    all_goals
      have k6 := below_next' k2 hbw6
      have hA6 := Arr.of_own hown6
      rw [List.nil_append, List.append_assoc, List.singleton_append] at hA6
      obtain ⟨L6, hL6⟩ : ∃ L6, l.take k ++ y :: l.drop k = L6 := ⟨_, rfl⟩
      have hl6 := HLn.out.2.2
      have HEq6 := HEq
      rw [hL6] at hA6 hl6 HEq6
      obtain ⟨A6, c6, hr6⟩ := hA6.form
      obtain ⟨M6, hM6⟩ : ∃ M6, L6.length = M6 := ⟨_, rfl⟩
      rw [hM6] at hr6 hl6
      subst hr6
      have HE6 := Lib.hid (encode_at w A6 M6 c6 _ w6 k6 hA6.int (by omega))
      rw [HEq6.out] at HE6
      clear hL6 hM6 HEq6 hown6 hown5
      clear hA6
      go_wp2_with fail
      refine HE6.out.mono ?_
      rintro e w8 ⟨he8, k8, n8⟩
      obtain rfl := show e = _ from he8
      go_wp2_with fail
      refine (HSe.out w _ T HS.out k8 (.inr rfl)).mono ?_
      rintro e w9 ⟨rfl, k9, n9⟩
      go_wp2_with fail
      refine (HSe.out w _ S HS.out k9 (.inl rfl)).mono ?_
      rintro e w10 ⟨rfl, k10, n10⟩
      go_wp2
      go_ret
      exact ⟨rfl, k10⟩

end Go.Proofs.YtmoinfkjcfkokaaDoor

namespace Go.Proofs.YtmoinfkjcfkokaaDoor
open Go.RowKit

theorem len_of {b : ByteArray} (h : b.size ≤ maxLen) : b.data.toList.length ≤ 9223372036854775807 := by
  unfold maxLen at h
  have : b.data.toList.length = b.size := rfl
  omega
theorem foldForms_u (b : ByteArray) (a : Int) (w : World) (hS : Spans w) (h : b.size ≤ maxLen) :
    Calls Tryd.prog 3 #[.string b, .int .i64 a] w fun e w' => e = .returned (.bool true) ∧ Below w.heap.size w w' := by
  rw [← str_data b]
  exact foldForms_v b.data.toList a w hS (len_of h)
theorem foldTwice_u (b : ByteArray) (w : World) (hS : Spans w) (h : b.size ≤ maxLen) :
    Calls Tryd.prog 4 #[.string b] w fun e w' => e = .returned (.bool true) ∧ Below w.heap.size w w' := by
  rw [← str_data b]
  exact foldTwice_v b.data.toList w hS (len_of h)
theorem foldEqual_u (b d : ByteArray) (w : World) (hS : Spans w) (h : b.size ≤ maxLen) (h2 : d.size ≤ maxLen) :
    Calls Tryd.prog 5 #[.string b, .string d] w fun e w' => e = .returned (.bool true) ∧ Below w.heap.size w w' := by
  rw [← str_data b, ← str_data d]
  exact foldEqual_v b.data.toList d.data.toList w hS (len_of h) (len_of h2)
theorem foldCharacters_u (b : ByteArray) (w : World) (hS : Spans w) (h : b.size ≤ maxLen) :
    Calls Tryd.prog 6 #[.string b] w fun e w' => e = .returned (.bool true) ∧ Below w.heap.size w w' := by
  rw [← str_data b]
  exact foldCharacters_v b.data.toList w hS (len_of h)
theorem foldJoins_u (A : Option Addr) (n c : Nat) (xs : List (List UInt8)) (w : World) (hS : Spans w) (h : Arr sv w w.heap.size (.slice A n c) xs) (hn : n ≤ 9223372036854775807) (hx : ∀ x ∈ xs, x.length ≤ maxLen) :
    Calls Tryd.prog 7 #[.slice A n c] w fun e w' => e = .returned (.bool true) ∧ Below w.heap.size w w' :=
  foldJoins_v A n c xs w hS h hn (fun x hm => by have := hx x hm; unfold maxLen at this; omega)
theorem foldLower_i (A : Option Addr) (n c : Nat) (a : Int) (xs : List Int) (w : World) (hS : Spans w) (h : Arr iv w w.heap.size (.slice A n c) xs) (hn : n ≤ 1000000000000000000) (h0 : 0 ≤ a) (ha : a < 256) :
    Calls Tryd.prog 8 #[.slice A n c, .int .u8 a] w fun e w' => e = .returned (.bool true) ∧ Below w.heap.size w w' := by
  obtain ⟨m, rfl⟩ : ∃ m : Nat, a = (m : Int) := ⟨a.toNat, by omega⟩
  exact foldLower_v A n c xs m w hS h hn (by omega)
theorem foldMarks_i (A : Option Addr) (n c : Nat) (a d : Int) (xs : List Int) (w : World) (hS : Spans w) (h : Arr iv w w.heap.size (.slice A n c) xs) (hn : n ≤ 1000000000000000000) (h0 : 0 ≤ a) (ha : a < 256) (h1 : 0 ≤ d) (hd : d < 256) :
    Calls Tryd.prog 9 #[.slice A n c, .int .u8 a, .int .u8 d] w fun e w' => e = .returned (.bool true) ∧ Below w.heap.size w w' := by
  obtain ⟨m, rfl⟩ : ∃ m : Nat, a = (m : Int) := ⟨a.toNat, by omega⟩
  obtain ⟨q, rfl⟩ : ∃ q : Nat, d = (q : Int) := ⟨d.toNat, by omega⟩
  exact foldMarks_v A n c xs m q w hS h hn (by omega) (by omega)

end Go.Proofs.YtmoinfkjcfkokaaDoor

namespace Go.Proofs.YtmoinfkjcfkokaaDoor
open Go.RowKit

theorem cell_block {W : World} {a : Addr} {v : Value} (h : W.cell? a = some v) : a.block < W.heap.size := World.block_lt_of_cell? W a h

theorem arr_of_ints {W : World} {x : Addr} {l c : Nat} {zs : List Int} (hl : l ≤ c) (hz : zs.length = c) (hcell : ∀ i, i < zs.length → W.cell? (x.add i) = some (.int .i64 (zs.getD i 0))) :
    ∃ xs, Arr iv W W.heap.size (.slice (some x) l c) xs ∧ xs.length = l := by
  have hlen : (zs.take l).length = l := by rw [List.length_take]; omega
  refine ⟨zs.take l, .inr ⟨x, c, by rw [hlen], by rw [hlen]; exact hl, fun h0 => ?_, fun i u hu => ?_⟩, hlen⟩
  · rw [hlen] at h0
    have := cell_block (hcell 0 (by omega))
    rwa [add_block] at this
  · have hi : i < l := by rw [← hlen]; exact (List.getElem?_eq_some_iff.1 hu).1
    rw [hcell i (by omega)]
    rw [List.getElem?_take, if_pos hi, List.getElem?_eq_getElem (show i < zs.length by omega)] at hu
    simp only [Option.some.injEq] at hu
    have hz' : zs.getD i 0 = zs[i]'(by omega) := by simp [List.getD, List.getElem?_eq_getElem (show i < zs.length by omega)]
    rw [hz', hu]
    rfl

theorem open_i {W : World} {x : Addr} {l c : Nat} {zs : List Int} (hl : l ≤ c) (hm : c ≤ maxLen) (hz : zs.length = c) (hcell : ∀ i, i < zs.length → W.cell? (x.add i) = some (.int .i64 (zs.getD i 0))) :
    ∃ xs, Arr iv W W.heap.size (.slice (some x) l c) xs ∧ xs.length = l ∧ l ≤ 9223372036854775807 := by
  obtain ⟨xs, h1, h2⟩ := arr_of_ints hl hz hcell
  unfold maxLen at hm
  exact ⟨xs, h1, h2, by omega⟩

theorem arr_of_texts {W : World} {x : Addr} {l c : Nat} {ss : List ByteArray} (hl : l ≤ c) (hz : l ≤ ss.length) (hcell : ∀ i, i < ss.length → W.cell? (x.add i) = some (.string (ss.getD i ByteArray.empty)))
    (hws : ∀ s ∈ ss, s.size ≤ maxLen) : ∃ xs, Arr sv W W.heap.size (.slice (some x) l c) xs ∧ xs.length = l ∧ ∀ s ∈ xs, s.length ≤ maxLen := by
  have hlen : ((ss.take l).map fun b => b.data.toList).length = l := by rw [List.length_map, List.length_take]; omega
  refine ⟨(ss.take l).map fun b => b.data.toList, .inr ⟨x, c, by rw [hlen], by rw [hlen]; exact hl, fun h0 => ?_, fun i u hu => ?_⟩, hlen, fun s hs => ?_⟩
  · rw [hlen] at h0
    have := cell_block (hcell 0 (by omega))
    rwa [add_block] at this
  · have hi : i < l := by rw [← hlen]; exact (List.getElem?_eq_some_iff.1 hu).1
    rw [hcell i (by omega)]
    rw [List.getElem?_map, List.getElem?_take, if_pos hi, List.getElem?_eq_getElem (show i < ss.length by omega)] at hu
    simp only [Option.map_some, Option.some.injEq] at hu
    have hz' : ss.getD i ByteArray.empty = ss[i]'(by omega) := by simp [List.getD, List.getElem?_eq_getElem (show i < ss.length by omega)]
    rw [hz', ← hu]
    unfold sv
    rw [str_data]
  · obtain ⟨b, hb, rfl⟩ := List.mem_map.1 hs
    have := hws b (List.mem_of_mem_take hb)
    exact this
theorem open_t {W : World} {x : Addr} {l c : Nat} {ss : List ByteArray} (hl : l ≤ c) (hm : c ≤ maxLen) (hz : l ≤ ss.length) (hcell : ∀ i, i < ss.length → W.cell? (x.add i) = some (.string (ss.getD i ByteArray.empty)))
    (hws : ∀ s ∈ ss, s.size ≤ maxLen) : ∃ xs, Arr sv W W.heap.size (.slice (some x) l c) xs ∧ xs.length = l ∧ l ≤ 9223372036854775807 ∧ ∀ s ∈ xs, s.length ≤ maxLen := by
  obtain ⟨bs, h1, h2, h3⟩ := arr_of_texts hl hz hcell hws
  unfold maxLen at hm
  exact ⟨bs, h1, h2, by omega, h3⟩

end Go.Proofs.YtmoinfkjcfkokaaDoor
