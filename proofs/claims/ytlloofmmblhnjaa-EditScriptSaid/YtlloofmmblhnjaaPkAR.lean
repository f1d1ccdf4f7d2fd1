/-
  slices.DeleteFunc over operations: the walk.
  The program's Script, Subsequence.
  The program's Chars, Text.
  The document's examples: awake.
-/
import Derived.Test.YtlloofmmblhnjaaPkAQ
import Derived.Test.YtlloofmmblhnjaaPkAJ
import Derived.Test.YtlloofmmblhnjaaPkAD
import Derived.Test.YtlloofmmblhnjaaPkAM
import Derived.Test.YtlloofmmblhnjaaPkAN
namespace Go.Proofs.Ytlloofmmblhnjaa
open Go.RowKit

set_option maxRecDepth 20000 in
set_option maxHeartbeats 12800000 in
theorem delete_ins (v : Value) (l : List OpI) (w : World) (base : Nat) (h : w.ownsRow base 50 2 v l.length (l.flatMap ov)) (hn : l.length ≤ 1000000) (hbase : base ≤ w.heap.size) :
    Calls Try.prog 38 #[v, .func (.func 39) #[] #[]] w fun e w' => ∃ (A : Option Addr) (n c : Nat), e = .returned (.slice A n c) ∧ SArr 2 ov w' w'.heap.size (.slice A n c) (keptE l) ∧ Below base w w' := by
  have hA := SArr.of_own ov_len h
  obtain ⟨A, c, rfl⟩ := hA.form
  obtain ⟨n, hnl⟩ : ∃ n, l.length = n := ⟨_, rfl⟩
  rw [hnl] at h hA hn ⊢
  have HIx := Lib.hid (index_ins A n c l w hA hn)
  have HA := Lib.hid hA
  have HO := Lib.hid h
  have HL := Lib.hid hnl
  have HBa := Lib.hid hbase
  clear hA h hnl hbase
  go_enter Try.func38, Try.ntmps38
  go_wp2_with fail
  refine HIx.out.mono ?_
  rintro e w1 ⟨z, rfl, hf, k1⟩
  rcases hf with ⟨rfl, hf⟩ | ⟨k, o, rfl, ho, hp, hk⟩
  · have HE : Hid (keptE l = l) := Lib.hid (kept_none hf)
    have HA1 := Lib.hid (HA.out.up k1)
    have kb := k1.mono HBa.out
    clear hf k1
    go_wp2
    go_ret
    rw [HE.out]
    exact ⟨_, _, _, rfl, HA1.out, kb⟩
  · have hkn : k < n := by rw [← HL.out]; exact (List.getElem?_eq_some_iff.1 ho).1
    obtain ⟨g, hAg, hgb, cur, hg, hcap, hsz⟩ : ∃ g, A = some ⟨g, 0, none⟩ ∧ base ≤ g ∧ ∃ cur, w.heap[g]? = some (.cells cur 50 (0, 0)) ∧ n ≤ c ∧ cur.size = c * 2 := by
      rcases HO.out.2 with ⟨e, h0⟩ | ⟨g, cap, cur, e, hg, hh, hc, _, hs, _⟩
      · omega
      · injection e with e1 e2 e3
        subst e3
        exact ⟨g, e1, hg, cur, hh, hc, hs⟩
    subst hAg
    obtain ⟨k2, hk2⟩ : ∃ k2, k + 1 = k2 := ⟨_, rfl⟩
    have hcl := HA.out.some_ ov_len (by decide) (show 0 < n by omega)
    have hI0 : DelI w1 g c l (keptE (l.take k2)) k2 := by
      have htk : keptE (l.take (k + 1)) = l.take k := by
        rw [kept_snoc ho, if_pos hp, List.append_nil]
        exact kept_none hk
      obtain ⟨b', o', e', _, hcc⟩ := hcl
      injection e' with e'
      injection e' with e1 e2 _
      have hB : Box w g 50 cur := hg
      have hall : ∀ t q, l[t]? = some q → cur[t * 2]? = some (.int .i64 q.1) ∧ cur[t * 2 + 1]? = some (.int .i64 q.2) := fun t q hq => by
        have c0 := hcc t q hq 0 _ rfl
        have c1 := hcc t q hq 1 _ rfl
        rw [← e1, ← e2, hB.cell] at c0 c1
        simp only [Nat.zero_add, Nat.add_zero] at c0 c1
        exact ⟨c0, c1⟩
      rw [← hk2, htk]
      refine ⟨cur, (k1.block g (Array.getElem?_eq_some_iff.1 hg).1).trans hg, hsz, fun t q hq => ?_, fun t q _ hq => hall t q hq⟩
      rw [List.getElem?_take] at hq
      split at hq
      · exact hall t q hq
      · cases hq
    obtain ⟨i0, hi0⟩ : ∃ i, (keptE (l.take k2)).length = i := ⟨_, rfl⟩
    have hi0k : i0 = k := by
      rw [← hi0, ← hk2, kept_snoc ho, if_pos hp, List.append_nil, kept_none hk, List.length_take]
      have := HL.out
      omega
    have ek : (k : Int) + 1 = (k2 : Int) := by omega
    have wk : IntKind.i64.wrap (k2 : Int) = (k2 : Int) := wraps_i64 _ (by omega) (by omega)
    have t1 : ((k : Int) == -1) = false := neE (by omega)
    have kb : Below base w w1 := k1.mono HBa.out
    have hs1 := k1.size
    have HI0 : Hid (DelI w1 g c l (keptE (l.take k2)) k2 ∧ (keptE (l.take k2)).length = k) := Lib.hid ⟨hI0, by rw [hi0, hi0k]⟩
    have hkk2 : k < k2 ∧ k2 ≤ n := by omega
    have hgl : g < w.heap.size := (Array.getElem?_eq_some_iff.1 hg).1
    clear ho hp hk hI0 hi0 hi0k hk2 hcl k1 hg hsz
    go_wp2_with fail
    go_loopw [5, 6] (fun iv jv wr => ∃ i j : Nat, iv = .int .i64 (i : Int) ∧ jv = .int .i64 (j : Int) ∧ i < j ∧ j ≤ n ∧ w.heap.size ≤ wr.heap.size ∧ Hid (DelI wr g c l (keptE (l.take j)) j ∧ (keptE (l.take j)).length = i) ∧ Below base w wr) (fun _ jv _ => n - (intOf jv).toNat)
    case atStart => exact ⟨k, k2, rfl, rfl, hkk2.1, hkk2.2, hs1, HI0, kb⟩
    case round =>
      obtain ⟨i, j, rfl, rfl, hij, hjn, hsr, HI, hb⟩ := hrel
      by_cases hjl : j < n
      · have zj : (j : Int) < (n : Int) := by omega
        have zj0 : (0 : Int) ≤ (j : Int) := by omega
        obtain ⟨q, hq⟩ : ∃ q, l[j]? = some q := ⟨_, List.getElem?_eq_getElem (by have := HL.out; omega)⟩
        obtain ⟨d0, d1⟩ := HI.out.1.at_ hq
        obtain ⟨p1, hp1⟩ : ∃ p, q.1 = p := ⟨_, rfl⟩
        obtain ⟨p2, hp2⟩ : ∃ p, q.2 = p := ⟨_, rfl⟩
        have HC := Lib.hid (ins_any q (wr.alloc (.cells #[.int .i64 p1, .int .i64 p2] 50)))
        have hks := kept_snoc hq
        rw [hp1, hp2] at HC
        rw [hp1] at d0
        rw [hp2] at d1
        have x0 := (op_box wr p1 p2).cell 0
        have x1 := (op_box wr p1 p2).cell 1
        simp at x0 x1
        have hbx := op_box wr p1 p2
        have kb1 : Below base w (wr.alloc (.cells #[.int .i64 p1, .int .i64 p2] 50)) := hb.alloc (by have := HBa.out; omega) _
        obtain ⟨j1, hj1⟩ : ∃ j1, j + 1 = j1 := ⟨_, rfl⟩
        have ej : (j : Int) + 1 = (j1 : Int) := by omega
        have wj : IntKind.i64.wrap (j1 : Int) = (j1 : Int) := wraps_i64 _ (by omega) (by omega)
        have hj1n : j1 ≤ n := by omega
        have hms : n - j1 < n - j := by omega
        have hI1 := HI.out.1.keep (w' := wr.alloc (.cells #[.int .i64 p1, .int .i64 p2] 50)) (Below.heap_alloc _ _ _ HI.out.1.lt)
        have hgr := HI.out.1.lt
        have HI1 := Lib.hid hI1
        rw [hj1] at hks
        have hsa : (wr.alloc (.cells #[.int .i64 p1, .int .i64 p2] 50)).heap.size = wr.heap.size + 1 := by simp
        have HSa := Lib.hid hsa
        cases hP : insP q with
        | true =>
          rw [hP] at HC hks
          rw [if_pos rfl, List.append_nil] at hks
          have HKs := Lib.hid hks
          have HQ := Lib.hid hj1
          clear hq hp1 hp2 hP hks hbx hI1 hj1 hsa
          go_wp2_with fail
          refine HC.out.mono ?_
          rintro e w2 ⟨rfl, q2⟩
          have HI2 : Hid (DelI w2 g c l (keptE (l.take j1)) j1 ∧ (keptE (l.take j1)).length = i) := Lib.hid (by
            rw [HKs.out]
            exact ⟨(HI1.out.keep (q2.block _ HI1.out.lt)).skip (by have := HQ.out; omega), HI.out.2⟩)
          have kb2 := kb1.trans (q2.mono (by have := HSa.out; have := HBa.out; omega))
          have hs2 : w.heap.size ≤ w2.heap.size := by have := q2.size; have := HSa.out; omega
          have hij1 : i < j1 := by have := HQ.out; omega
          go_wp2
          go_roundw
          case rel => exact ⟨i, j1, rfl, by go_num, hij1, hj1n, hs2, HI2, kb2⟩
          case measure => first | (simp [intOf]; done) | (simp [intOf]; omega)
        | false =>
          rw [hP] at HC hks
          rw [if_neg (by decide)] at hks
          have HKs := Lib.hid hks
          have HQ := Lib.hid hj1
          obtain ⟨i1, hi1⟩ : ∃ i1, i + 1 = i1 := ⟨_, rfl⟩
          have ei : (i : Int) + 1 = (i1 : Int) := by omega
          have wi : IntKind.i64.wrap (i1 : Int) = (i1 : Int) := wraps_i64 _ (by omega) (by omega)
          have zi : (i : Int) < (n : Int) := by omega
          have zi0 : (0 : Int) ≤ (i : Int) := by omega
          have HQe : Hid (q = (p1, p2)) := Lib.hid (by rw [← hp1, ← hp2])
          have HI1e := Lib.hid hi1
          have HBx := Lib.hid hbx
          clear hq hp1 hp2 hP hks hbx hI1 hj1 hi1 hsa
          go_wp2_with fail
          refine HC.out.mono ?_
          rintro e w2 ⟨rfl, q2⟩
          have hbx2 := HBx.out.below q2 (by have := HSa.out; omega)
          have y0 := hbx2.cell 0
          have y1 := hbx2.cell 1
          simp at y0 y1
          have hI2 := HI1.out.keep (q2.block _ HI1.out.lt)
          obtain ⟨⟨v0, c0⟩, f0⟩ := hI2.has (t := i * 2) (by omega)
          obtain ⟨⟨v1, c1⟩, f1⟩ := hI2.has (t := i * 2 + 1) (by omega)
          have hI3 := (hI2.skip (j' := j + 1) (by omega)).put (by rw [HI.out.2]; omega) (by omega) q
          rw [HI.out.2, HQ.out, HQe.out] at hI3
          have HI3 : Hid (DelI ((w2.setCell ⟨g, i * 2, none⟩ (.int .i64 p1)).setCell ⟨g, i * 2 + 1, none⟩ (.int .i64 p2)) g c l (keptE (l.take j1)) j1 ∧ (keptE (l.take j1)).length = i1) := Lib.hid (by
            rw [HKs.out, HQe.out]
            exact ⟨hI3, by rw [List.length_append, List.length_singleton, HI.out.2]; exact HI1e.out⟩)
          have kb2 := kb1.trans (q2.mono (by have := HSa.out; have := HBa.out; omega))
          have kb3 := (kb2.setCell (p := ⟨g, i * 2, none⟩) hgb (.int .i64 p1)).setCell (p := ⟨g, i * 2 + 1, none⟩) hgb (.int .i64 p2)
          have hs3 : w.heap.size ≤ ((w2.setCell ⟨g, i * 2, none⟩ (.int .i64 p1)).setCell ⟨g, i * 2 + 1, none⟩ (.int .i64 p2)).heap.size := by rw [World.size_setCell, World.size_setCell]; have := q2.size; have := HSa.out; omega
          have hij1 : i1 < j1 := by have := HQ.out; have := HI1e.out; omega
          clear hI2 hI3 hbx2 kb2 q2
          go_wp2
          go_roundw
          case rel => exact ⟨i1, j1, by go_num, by go_num, hij1, hj1n, hs3, HI3, kb3⟩
          case measure => first | (simp [intOf]; done) | (simp [intOf]; omega)
      · have t2 : decide ((j : Int) < (n : Int)) = false := decide_eq_false (by omega)
        have hin : i < n := by omega
        have HK : Hid (keptE (l.take j) = keptE l) := Lib.hid (by rw [List.take_of_length_le (by have := HL.out; omega)])
        have hsl1 := fun W => tail_ops g 0 n i c (by omega) (by omega) W
        have hsl2 := fun W => head_ops (some ⟨g, 0, none⟩) n c i (by omega) W
        simp only [Nat.zero_add] at hsl1
        have hclr : ∃ vs : List Value, ∀ ty, (Builtin.clear_ #[35] ty #[.slice (some ⟨g, i * 2, none⟩) (n - i) (c - i)]).run Try.prog wr = .ok (.tuple #[]) (wr.setCells g (i * 2) vs) := by
          obtain ⟨vs, h1, h2⟩ := clear_ops wr 35 g (i * 2) (n - i) (c - i) (by omega) (fun t ht => by
            obtain ⟨⟨v, hv⟩, _⟩ := HI.out.1.has (t := i * 2 + t) (by omega)
            rw [hv]; rfl) (fun t ht => (HI.out.1.has (t := i * 2 + t) (by omega)).2)
          exact ⟨vs, fun ty => h2⟩
        obtain ⟨vs, hclr⟩ := hclr
        have hkb : Below base w (wr.setCells g (i * 2) vs) := Go.below_setCells hgb vs _ _ hb
        have hwsz : g < (wr.setCells g (i * 2) vs).heap.size := by
          have := (Go.below_setCells (B := 0) (Nat.zero_le g) vs (i * 2) wr (Below.refl 0 wr)).size
          have := HI.out.1.lt
          omega
        have HS : Hid (SArr 2 ov (wr.setCells g (i * 2) vs) (wr.setCells g (i * 2) vs).heap.size (.slice (some ⟨g, 0, none⟩) i c) (keptE l)) := Lib.hid (by
          obtain ⟨⟨cs, h1, h2, h3, _⟩, hlen⟩ := HI.out
          rw [HK.out] at h3 hlen
          refine .inr ⟨⟨g, 0, none⟩, c, by rw [hlen], by omega, fun _ => hwsz, fun t u hu jj x hx => ?_⟩
          have htl : t < i := by rw [← hlen]; exact (List.getElem?_eq_some_iff.1 hu).1
          rw [plain_add]
          have hj2 : jj < 2 := by
            have := (List.getElem?_eq_some_iff.1 hx).1
            rwa [ov_len] at this
          rw [World.cell?_setCells_out _ _ _ _ _ (fun _ _ => .inl (by show t * 2 + jj < i * 2; omega)), h1.cell]
          obtain ⟨e0, e1⟩ := h3 t u hu
          have : jj = 0 ∨ jj = 1 := by omega
          rcases this with rfl | rfl
          · simp only [ov, List.getElem?_cons_zero, Option.some.injEq] at hx
            rw [← hx]; exact e0
          · simp only [ov, List.getElem?_cons_succ, List.getElem?_cons_zero, Option.some.injEq] at hx
            rw [← hx]; exact e1)
        clear hwsz
        go_wp2
        go_ret
        exact ⟨_, _, _, rfl, HS.out, hkb⟩

end Go.Proofs.Ytlloofmmblhnjaa

namespace Go.Proofs.Ytlloofmmblhnjaa
open Go.RowKit

set_option maxRecDepth 20000 in
set_option maxHeartbeats 3200000 in
theorem prScript_any (A A' : Option Addr) (n c m c' : Nat) (a b : List Int) (w : World) (h : Arr iv w w.heap.size (.slice A n c) a) (h' : Arr iv w w.heap.size (.slice A' m c') b) (hn : n ≤ 120) (hm : m ≤ 120) :
    Calls Try.prog 24 #[.slice A n c, .slice A' m c'] w fun e w' => ∃ (Ar : Option Addr) (l cr : Nat), e = .returned (.slice Ar l cr) ∧ SArr 2 ov w' w'.heap.size (.slice Ar l cr) (scrD a b) ∧ Below w.heap.size w w' := by
  have hla := h.len
  have hlb := h'.len
  have hhigh := ed_high a b
  obtain ⟨M, hM⟩ : ∃ M, max n m = M := ⟨_, rfl⟩
  have hMz : max (n : Int) (m : Int) = (M : Int) := by omega
  have HS := script_any (grid1 a b) A A' n c m c' (M : Int) w h h' (by omega) (by omega) (by omega) (by unfold dz enZ; omega) (by omega) (by rw [tab_zero]; omega) (by rw [tab_zero]; omega)
  have HS' : Hid (Calls Try.prog 37 #[.agg #[.slice A n c, .slice A' m c', .int .i64 1, .int .i64 (M : Int)]] w fun e w' => ∃ (Ar : Option Addr) (l cr : Nat), e = .returned (.slice Ar l cr) ∧ w'.ownsRow w.heap.size 50 2 (.slice Ar l cr) (scrD a b).length ((scrD a b).flatMap ov) ∧ Below w.heap.size w w') := Lib.hid HS
  clear h h' hla hlb hhigh hM HS
  go_enter Try.func24, Try.ntmps24
  go_wp2_with fail
  refine HS'.out.mono ?_
  rintro e w1 ⟨Ar, l, cr, rfl, hO, k1⟩
  have HA := Lib.hid (SArr.of_own ov_len hO)
  clear hO
  go_wp2
  go_ret
  exact ⟨_, _, _, rfl, HA.out, k1⟩

set_option maxRecDepth 20000 in
set_option maxHeartbeats 3200000 in
theorem prSubsequence_any (A A' : Option Addr) (n c m c' : Nat) (a b : List Int) (w : World) (h : Arr iv w w.heap.size (.slice A n c) a) (h' : Arr iv w w.heap.size (.slice A' m c') b) (hn : n ≤ 120) (hm : m ≤ 120) :
    Calls Try.prog 26 #[.slice A n c, .slice A' m c'] w fun e w' => ∃ (Ar : Option Addr) (l cr : Nat), e = .returned (.slice Ar l cr) ∧ Arr iv w' w'.heap.size (.slice Ar l cr) (subD a b) ∧ Below w.heap.size w w' := by
  have hla := h.len
  have hlb := h'.len
  obtain ⟨M, hM⟩ : ∃ M, n + m = M := ⟨_, rfl⟩
  have hMz : (n : Int) + (m : Int) = (M : Int) := by omega
  have wM : IntKind.i64.wrap (M : Int) = (M : Int) := wraps_i64 _ (by omega) (by omega)
  have hind : indE a b 0 0 ≤ M := by unfold indE; omega
  have HS := script_any (grid0 a b) A A' n c m c' (M : Int) w h h' (by omega) (by omega) (by omega) (by unfold dz enZ; omega) (by omega) (by omega) (by omega)
  have HS' : Hid (Calls Try.prog 37 #[.agg #[.slice A n c, .slice A' m c', .int .i64 0, .int .i64 (M : Int)]] w fun e w' => ∃ (Ar : Option Addr) (l cr : Nat), e = .returned (.slice Ar l cr) ∧ w'.ownsRow w.heap.size 50 2 (.slice Ar l cr) (scr0 a b).length ((scr0 a b).flatMap ov) ∧ Below w.heap.size w w') := Lib.hid HS
  have hsl := scr0_len a b
  have HSl : Hid ((scr0 a b).length ≤ 240) := Lib.hid (by omega)
  have HA := Lib.hid h
  clear h h' hla hlb hM HS hind hsl
  go_enter Try.func26, Try.ntmps26
  go_wp2_with fail
  refine HS'.out.mono ?_
  rintro e w1 ⟨Ar, l, cr, rfl, hO, k1⟩
  have HD := Lib.hid (delete_ins (.slice Ar l cr) (scr0 a b) w1 w.heap.size hO (by have := HSl.out; omega) k1.size)
  clear hO
  go_wp2_with fail
  refine HD.out.mono ?_
  rintro e w2 ⟨Ad, ld, cd, rfl, hK, k2⟩
  have k12 := k1.trans k2
  have HAp := prApply_any A Ad n c ld cd a (keptE (scr0 a b)) w2 ((HA.out.below k12).more k12.size) hK (by omega) (by have := hK.len; have := kept_le (scr0 a b); have := HSl.out; omega)
  rw [apply_kept] at HAp
  have HAp' := Lib.hid HAp
  clear hK HAp
  go_wp2_with fail
  refine HAp'.out.mono ?_
  rintro e w3 ⟨Ap, lp, cp, rfl, hR, k3⟩
  have HR := Lib.hid hR
  have k13 := k12.trans (k3.mono k12.size)
  clear hR
  go_wp2
  go_ret
  exact ⟨_, _, _, rfl, HR.out, k13⟩

end Go.Proofs.Ytlloofmmblhnjaa

namespace Go.Proofs.Ytlloofmmblhnjaa
open Go.RowKit

set_option maxRecDepth 20000 in
set_option maxHeartbeats 3200000 in
theorem prChars_any (s : List UInt8) (w : World) (hs : s.length ≤ 1000000) :
    Calls Try.prog 18 #[.string (str s)] w fun e w' => ∃ A n c, e = .returned (.slice A n c) ∧ Arr iv w' w'.heap.size (.slice A n c) (charsE s) ∧ Below w.heap.size w w' := by
  have hsz : (str s).size = s.length := rfl
  go_enter Try.func18, Try.ntmps18
  go_wp2
  go_loopw [3] (fun v wr => ∃ (pos : Nat) (l : List Nat), wr.heap[w.heap.size]? = some (.stringIter (str s) pos) ∧ Hid (charsE s = l.map (fun d : Nat => (d : Int)) ++ runesAt (str s) pos) ∧ l.length ≤ pos ∧ wr.ownsRow (w.heap.size + 1) 3 1 v l.length (l.map nv) ∧ Below w.heap.size w wr) (fun _ wr => s.length - wr.iterPos w.heap.size)
  case atStart =>
    exact ⟨0, [], World.iter_heap w (str s) 0, Lib.hid rfl, Nat.le_refl _, World.ownsRow_nil _ _ _ _, (Below.refl _ _).alloc (Nat.le_refl _) _⟩
  case round =>
    obtain ⟨pos, l, hit, HP, hlp, hown, hb⟩ := hrel
    have hks : w.heap.size < wr.heap.size := (Array.getElem?_eq_some_iff.1 hit).1
    by_cases hp : pos < s.length
    · have hown2 := own_iterE hown hit (pos + (Utf8.decode (str s) pos).2)
      obtain ⟨c, n, hcn⟩ : ∃ c n, Utf8.decode (str s) pos = (c, n) := ⟨_, _, rfl⟩
      obtain ⟨hst, hn1⟩ := runes_step (str s) pos c n hp hcn
      have hnx : ∀ ty, (Instr.next (.pointer (some ⟨w.heap.size, 0, none⟩)) true ty).run Try.prog wr = _ := fun ty => Lib.run_next_any_at wr w.heap.size (str s) pos ty hit hp
      have hit2 := Lib.iterAt_heap wr w.heap.size (str s) pos (pos + (Utf8.decode (str s) pos).2) hit
      have hbw2 := Lib.below_iterAt hb (k := w.heap.size) (Nat.le_refl _) (str s) (pos + (Utf8.decode (str s) pos).2)
      have hcm := decode_le (str s) pos
      simp only [hcn] at hnx hit2 hbw2 hcm hown2
      have hcz : (c : Int) ≤ 2147483647 := by omega
      have hcz0 : (0 : Int) ≤ (c : Int) := by omega
      have HN : Hid (charsE s = (l ++ [c]).map (fun d : Nat => (d : Int)) ++ runesAt (str s) (pos + n)) := Lib.hid (by
        rw [HP.out, hst]
        simp)
      have hsb : w.heap.size + 1 ≤ (wr.iterAt w.heap.size (str s) (pos + n)).heap.size := by rw [Lib.iterAt_size]; omega
      clear hcn hst
      go_wp2_with (at_builtin; refine append_int (wr.iterAt w.heap.size (str s) (pos + n)) rfl (.tmp 11) (.tmp 14) rfl (w.heap.size + 1) u3 l rfl hown2 c _ rfl rfl (by omega) hsb ?_; intro r1 w3 hown3 hb3)
      go_roundw
      case rel => exact ⟨pos + n, l ++ [c], (hb3.block _ (by omega)).trans hit2, HN, by rw [List.length_append, List.length_singleton]; omega, hown3, hbw2.trans (hb3.mono (by omega))⟩
      case measure =>
        rw [iterPos_E ((hb3.block _ (by omega)).trans hit2), iterPos_E hit]
        omega
    · have HE : Hid (charsE s = l.map (fun d : Nat => (d : Int))) := Lib.hid (by
        rw [HP.out, runes_end (str s) pos (by omega), List.append_nil])
      have hnx : ∀ ty, (Instr.next (.pointer (some ⟨w.heap.size, 0, none⟩)) true ty).run Try.prog wr = _ := fun ty => Lib.run_next_end_at wr w.heap.size (str s) pos ty hit hp
      have hA := (Arr.of_own hown).int
      obtain ⟨A, c, rfl⟩ := hA.form
      have HA := Lib.hid hA
      clear hA hown
      go_wp2
      go_ret
      rw [HE.out]
      exact ⟨_, _, _, rfl, HA.out, hb⟩

set_option maxRecDepth 20000 in
set_option maxHeartbeats 3200000 in
theorem prText_any (a b : List UInt8) (w : World) (ha : a.length ≤ 100000) (hb : b.length ≤ 100000) :
    Calls Try.prog 20 #[.string (str a), .string (str b)] w fun e w' => e = .returned (.int .i64 (edD (charsE a) (charsE b) : Int)) ∧ Below w.heap.size w w' := by
  have H1 := Lib.hid (fun W => prChars_any a W (by omega))
  have H2 := Lib.hid (fun W => prChars_any b W (by omega))
  have l1 := chars_len a
  have l2 := chars_len b
  obtain ⟨x, hx⟩ : ∃ x, charsE a = x := ⟨_, rfl⟩
  obtain ⟨y, hy⟩ : ∃ x, charsE b = x := ⟨_, rfl⟩
  rw [hx] at H1 l1 ⊢
  rw [hy] at H2 l2 ⊢
  clear hx hy
  go_enter Try.func20, Try.ntmps20
  go_wp2_with fail
  refine (H1.out _).mono ?_
  rintro e w1 ⟨A1, n1, c1, rfl, hA1, k1⟩
  have HA1 := Lib.hid hA1
  clear hA1
  go_wp2_with fail
  refine (H2.out _).mono ?_
  rintro e w2 ⟨A2, n2, c2, rfl, hA2, k2⟩
  have HD := Lib.hid (prDistance_any A1 A2 n1 c1 n2 c2 x y w2 (HA1.out.up k2) hA2 (by have := HA1.out.len; omega) (by have := hA2.len; omega))
  clear hA2
  go_wp2_with fail
  refine HD.out.mono ?_
  rintro e w3 ⟨rfl, k3⟩
  go_wp2
  go_ret
  exact ⟨rfl, below_next (below_next k1 k2) k3⟩

end Go.Proofs.Ytlloofmmblhnjaa

namespace Go.Proofs.Ytlloofmmblhnjaa
open Go.RowKit

theorem op_fieldsE : Try.prog.underlying 50 = some (.struct (Try.prog.fieldsOf 50)) := by kernel_rfl
theorem op_heldE : Try.prog.stoodInHeld 50 = false := by kernel_rfl
theorem eq_opE (a b p q : Int) (W : World) : (Op.equalIn 10000 50 (.agg #[.int .i64 a, .int .i64 p]) (.agg #[.int .i64 b, .int .i64 q])).run Try.prog W = .ok (decide ((a, p) = (b, q))) W := by
  have hf : (Try.prog.fieldsOf 50).toList.map (fun f => (f.name == "_", f.type, f.offset)) = [(false, 3, 0), (false, 3, 1)] := by kernel_rfl
  rw [show (10000 : Nat) = 9999 + 1 from rfl, run_equalIn_agg W 9999 _ _ _ op_fieldsE op_heldE]
  obtain ⟨f, g, hL⟩ : ∃ f g, (Try.prog.fieldsOf 50).toList = [f, g] := by
    generalize (Try.prog.fieldsOf 50).toList = L at hf
    cases L with
    | nil => simp at hf
    | cons f L => cases L with
      | nil => simp at hf
      | cons g L => cases L with
        | nil => exact ⟨f, g, rfl⟩
        | cons h L => simp at hf
  rw [hL] at hf ⊢
  simp only [List.map_cons, List.map_nil, List.cons.injEq, Prod.mk.injEq, and_true] at hf
  obtain ⟨⟨f1, f2, f3⟩, g1, g2, g3⟩ := hf
  have f1' : f.name ≠ "_" := by simpa using f1
  have g1' : g.name ≠ "_" := by simpa using g1
  simp only [Op.eqFields, if_pos f1', if_pos g1', f2, f3, g2, g3]
  have p1 : ∀ (x y : Int), (part 3 #[.int .i64 x, .int .i64 y] 0).run Try.prog W = .ok (.int .i64 x) W := fun x y => by
    have hz := Try.isAgg3 W
    simp [part, hz]
  have p2 : ∀ (x y : Int), (part 3 #[.int .i64 x, .int .i64 y] 1).run Try.prog W = .ok (.int .i64 y) W := fun x y => by
    have hz := Try.isAgg3 W
    simp [part, hz]
  have e1 : ∀ x y : Int, (Op.equalIn 9999 3 (.int .i64 x) (.int .i64 y)).run Try.prog W = .ok (x == y) W := fun x y => by
    rw [show (9999 : Nat) = 9998 + 1 from rfl, run_equalIn_int W 9998 _ _ _ _ _ Try.underlying3]
  simp only [Sem.run_bind, p1, p2, e1, Result.andThen_ok, Sem.run_ite, Sem.run_pure]
  by_cases h1 : a = b
  · rw [eqE h1]
    simp only [Bool.not_true, Bool.false_eq_true, if_false]
    by_cases h2 : p = q
    · subst h1 h2
      simp
    · rw [neE h2, decide_eq_false (fun e => h2 (congrArg Prod.snd e))]
      simp
  · rw [neE h1, decide_eq_false (fun e => h1 (congrArg Prod.fst e))]
    simp
theorem eql_opE (a b p q : Int) (W : World) : (binOp .eql 50 (.agg #[.int .i64 a, .int .i64 p]) (.agg #[.int .i64 b, .int .i64 q])).run Try.prog W = .ok (.bool (decide ((a, p) = (b, q)))) W := by
  rw [run_eql_struct, eq_opE]
  rfl

set_option maxRecDepth 20000 in
set_option maxHeartbeats 3200000 in
theorem awake11_any (w : World) : Calls Try.prog 11 #[] w fun e w' => e = .returned (.bool true) ∧ Below w.heap.size w w' := by
  have C1 := Lib.hid (fun W => prChars_any [107, 105, 116, 116, 101, 110] W (by decide))
  have C2 := Lib.hid (fun W => prChars_any [115, 105, 116, 116, 105, 110, 103] W (by decide))
  have C3 := Lib.hid (fun W => prChars_any [99, 97, 116] W (by decide))
  have C4 := Lib.hid (fun W => prChars_any [99, 97, 114, 116] W (by decide))
  have CT := Lib.hid (fun W => prText_any [99, 97, 116] [99, 97, 114, 116] W (by decide) (by decide))
  rw [exE1] at C1
  rw [exE2] at C2
  rw [exE5] at C3
  rw [exE6] at C4
  rw [exE5, exE6, exE8] at CT
  go_enter Try.func11, Try.ntmps11
  go_wp2_with fail
  refine (C1.out _).mono ?_
  rintro e w1 ⟨A1, n1, c1, rfl, hA1, k1⟩
  have HA1 := Lib.hid hA1
  clear hA1
  go_wp2_with fail
  refine (C2.out _).mono ?_
  rintro e w2 ⟨A2, n2, c2, rfl, hA2, k2⟩
  have b2 := below_next k1 k2
  have HA2 := Lib.hid hA2
  have HA1b := Lib.hid (HA1.out.up k2)
  clear hA2
  go_wp2_with fail
  refine (C3.out _).mono ?_
  rintro e w3 ⟨A3, n3, c3, rfl, hA3, k3⟩
  have b3 := below_next b2 k3
  have HA3 := Lib.hid hA3
  have HA1c := Lib.hid (HA1b.out.up k3)
  have HA2c := Lib.hid (HA2.out.up k3)
  clear hA3
  go_wp2_with fail
  refine (C4.out _).mono ?_
  rintro e w4 ⟨A4, n4, c4, rfl, hA4, k4⟩
  have b4 := below_next b3 k4
  have HA1d := Lib.hid (HA1c.out.up k4)
  have HA2d := Lib.hid (HA2c.out.up k4)
  have HSc := Lib.hid (prScript_any A3 A4 n3 c3 n4 c4 _ _ w4 (HA3.out.up k4) hA4 (by have := HA3.out.len; simp at this; omega) (by have := hA4.len; simp at this; omega))
  rw [exE7] at HSc
  clear hA4
  go_wp2_with fail
  refine HSc.out.mono ?_
  rintro e w5 ⟨A5, n5, c5, rfl, hA5, k5⟩
  have b5 := below_next b4 k5
  have HA1e := Lib.hid (HA1d.out.up k5)
  have HA2e := Lib.hid (HA2d.out.up k5)
  have HA5 := Lib.hid hA5
  have HD := Lib.hid (prDistance_any A1 A2 n1 c1 n2 c2 _ _ w5 HA1e.out HA2e.out (by have := HA1.out.len; simp at this; omega) (by have := HA2.out.len; simp at this; omega))
  rw [exE3] at HD
  clear hA5
  go_wp2_with fail
  refine HD.out.mono ?_
  rintro e w6 ⟨rfl, k6⟩
  have b6 := below_next b5 k6
  have HA5f := Lib.hid (HA5.out.up k6)
  have HSb := Lib.hid (prSubsequence_any A1 A2 n1 c1 n2 c2 _ _ w6 (HA1e.out.up k6) (HA2e.out.up k6) (by have := HA1.out.len; simp at this; omega) (by have := HA2.out.len; simp at this; omega))
  rw [exE4] at HSb
  have y0 : ((((3 : Nat) : Int)) == 3) = true := rfl
  go_wp2_with fail
  refine HSb.out.mono ?_
  rintro e w7 ⟨A7, n7, c7, rfl, hA7, k7⟩
  have b7 := below_next b6 k7
  have k7a : Below w7.heap.size w7 (w7.alloc (.cells #[.int .i64 105, .int .i64 116, .int .i64 116, .int .i64 110] 3)) := (Below.refl _ _).alloc (Nat.le_refl _) _
  have hA8 : Arr iv (w7.alloc (.cells #[.int .i64 105, .int .i64 116, .int .i64 116, .int .i64 110] 3)) (w7.heap.size + 1) (.slice (some ⟨w7.heap.size, 0, none⟩) 4 4) [105, 116, 116, 110] :=
    Arr.of_box (Box.made w7 3 _) rfl (Nat.le_refl _) (by
      intro i u hu
      match i, hu with
      | 0, hu => injection hu with hu; subst hu; rfl
      | 1, hu => injection hu with hu; subst hu; rfl
      | 2, hu => injection hu with hu; subst hu; rfl
      | 3, hu => injection hu with hu; subst hu; rfl)
  rw [← World.size_alloc w7 (.cells #[.int .i64 105, .int .i64 116, .int .i64 116, .int .i64 110] 3)] at hA8
  have HSm := Lib.hid (sameInts_any A7 (some ⟨w7.heap.size, 0, none⟩) n7 c7 4 4 _ _ _ (hA7.up k7a) hA8 (by have := hA7.len; simp at this; omega) (by decide))
  rw [decide_eq_true rfl] at HSm
  have b7a := below_next b7 k7a
  have HA5g := Lib.hid ((HA5f.out.up k7).up k7a)
  clear hA7 hA8
  go_wp2_with fail
  refine HSm.out.mono ?_
  rintro e w8 ⟨rfl, k8⟩
  have b8 := below_next b7a k8
  have HA5h := Lib.hid (HA5g.out.up k8)
  have hl5 : n5 = 4 := by have := HA5.out.len; simp at this; omega
  subst hl5
  obtain ⟨q5, o5, rfl, hB5, hc5⟩ := ops_cells HA5h.out (by decide)
  have d0 : w8.cell? ⟨q5, o5 + 4, none⟩ = some (.int .i64 4) := (hc5 2 (4, 114) rfl).1
  have d1 : w8.cell? ⟨q5, o5 + 4 + 1, none⟩ = some (.int .i64 114) := (hc5 2 (4, 114) rfl).2
  have hq : ∀ W, (binOp .eql 50 (.agg #[.int .i64 4, .int .i64 114]) (.agg #[.int .i64 4, .int .i64 114])).run Try.prog W = .ok (.bool true) W := fun W => eql_opE 4 4 114 114 W
  have HCo := Lib.hid (prCost_any (some ⟨q5, o5, none⟩) 4 c5 _ w8 HA5h.out (by decide))
  rw [exE9] at HCo
  have y1 : ((((1 : Nat) : Int)) == 1) = true := rfl
  clear hc5
  go_wp2_with fail
  refine HCo.out.mono ?_
  rintro e w9 ⟨rfl, k9⟩
  have b9 := below_next b8 k9
  go_wp2_with fail
  refine (CT.out _).mono ?_
  rintro e w10 ⟨rfl, k10⟩
  have b10 := below_next b9 k10
  go_wp2
  go_ret
  exact ⟨rfl, b10⟩

end Go.Proofs.Ytlloofmmblhnjaa
