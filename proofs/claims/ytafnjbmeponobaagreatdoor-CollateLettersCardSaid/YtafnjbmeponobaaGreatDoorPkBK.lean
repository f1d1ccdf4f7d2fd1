/-
  Two rows of numbers of the call's own, appended to in one region that draws its order.
  The reference's Compare.
  The body of CollateCompare.
-/
import Derived.Test.YtafnjbmeponobaaGreatDoorPkAF
import Derived.Test.YtafnjbmeponobaaGreatDoorPkAW
import Derived.Test.YtafnjbmeponobaaGreatDoorPkBI
import Derived.Deep.RegionHeld3
import Derived.Test.YtafnjbmeponobaaGreatDoorPkBJ
import Derived.Test.YtafnjbmeponobaaGreatDoorPkBH
namespace Go.Proofs.YtafnjbmeponobaaGreatDoor
open Go.RowKit

/-- In W the rows p and q lie apart, and beside the one-element slices of bs. -/
structure Two (w0 W : World) (base : Nat) (p q : Value) (xs ys : List Nat) (bs : List (Nat × Nat)) : Prop where
  below : Below base w0 W
  size : base ≤ W.heap.size
  fst : W.ownsRow base 3 1 p xs.length (xs.map nv)
  snd : W.ownsRow base 3 1 q ys.length (ys.map nv)
  apart : ∀ g, p.ownBlock = some g → q.ownBlock ≠ some g
  boxes : ∀ b ∈ bs, Box W b.1 3 #[nv b.2] ∧ p.ownBlock ≠ some b.1 ∧ q.ownBlock ≠ some b.1
theorem Two.swap {w0 W : World} {base : Nat} {p q : Value} {xs ys : List Nat} {bs : List (Nat × Nat)} (h : Two w0 W base p q xs ys bs) : Two w0 W base q p ys xs bs :=
  ⟨h.below, h.size, h.snd, h.fst, fun g hq hp => h.apart g hp hq, fun b hb => ⟨(h.boxes b hb).1, (h.boxes b hb).2.2, (h.boxes b hb).2.1⟩⟩
theorem Two.drew {w0 W : World} {base : Nat} {p q : Value} {xs ys : List Nat} {bs : List (Nat × Nat)} (h : Two w0 W base p q xs ys bs) : Two w0 W.drew base p q xs ys bs :=
  ⟨h.below.drew, h.size, h.fst, h.snd, h.apart, h.boxes⟩
theorem own_lt8 {w : World} {base e size n : Nat} {v : Value} {xs : List Value} (h : w.ownsRow base e size v n xs) {g : Nat} (hg : v.ownBlock = some g) : g < w.heap.size := by
  obtain ⟨_, cur, hx⟩ := own_blockG h hg
  exact (Array.getElem?_eq_some_iff.1 hx).1
theorem Two.al {w0 W : World} {base : Nat} {p q : Value} {xs ys : List Nat} {bs : List (Nat × Nat)} (h : Two w0 W base p q xs ys bs) (y : Nat) : Two w0 (W.alloc (.cells #[.int .i64 (y : Int)] 3)) base p q xs ys ((W.heap.size, y) :: bs) := by
  refine ⟨h.below.alloc h.size _, by simp; have := h.size; omega, own_keep_below h.fst ((Below.refl _ _).alloc (Nat.le_refl _) _), own_keep_below h.snd ((Below.refl _ _).alloc (Nat.le_refl _) _), h.apart, fun b hb => ?_⟩
  rcases List.mem_cons.1 hb with rfl | hb
  · exact ⟨Box.made W _ _, fun e => Nat.lt_irrefl _ (own_lt8 h.fst e), fun e => Nat.lt_irrefl _ (own_lt8 h.snd e)⟩
  · exact ⟨(h.boxes b hb).1.alloc _, (h.boxes b hb).2⟩
theorem step_fst {ops : Array Oper} {o : Oper} {a : Act} {K : Act → World → Prop} {Q : Exit → Act → World → Prop} {E : Prop} {w0 w : World} (s x : Operand) (base : Nat) (p : Value) {q : Value} {xs ys : List Nat} {bs : List (Nat × Nat)} (y : Nat)
    (hgd : o.guard = none) (ho : o.op = .call { callee := .builtin .append, args := #[s, x], argTypes := #[34, 34] })
    (hs : a.eval s = p) (hst : Two w0 w base p q xs ys bs) {N : Nat} (hx : a.eval x = .slice (some ⟨N, 0, none⟩) 1 1) (hm : (N, y) ∈ bs) (hlen : xs.length ≤ 100000000)
    (h : ∀ v' w', Two w0 w' base v' q (xs ++ [y]) ys bs → K (a.put o.dst v') w') :
    if Region.wanted o (yielded ops a.tmps) = true then Oper.wp Tryz.prog o a w K Q else E := by
  have hw : Region.wanted o (yielded ops a.tmps) = true := by simp [Region.wanted, hgd]
  rw [if_pos hw]
  obtain ⟨i0, hi, hz0, hz1, hz2⟩ := info_parts info_int
  obtain ⟨hbox, -, -⟩ := hst.boxes (N, y) hm
  have hcell : ∀ j u, ([y].map nv)[j]? = some u → w.cell? ((⟨N, 0, none⟩ : Addr).add j) = some u := by
    intro j u hu
    cases j with
    | zero => simp at hu; subst hu; rw [plain_add]; exact hbox.cell 0
    | succ j => simp at hu
  obtain ⟨v', w', hr, h2, h3, h4⟩ := run_append_where (P := Tryz.prog) w base 34 o.type 3 i0 (.int .i64 0) 8 Tryz.underlying34 hi hz0 hz1 hz2 rfl p xs.length (xs.map nv) hst.fst ⟨N, 0, none⟩ 1 1 ([y].map nv) rfl (by decide) hcell
    (by intro u hu; obtain ⟨y, _, rfl⟩ := List.mem_map.1 hu; exact one_nv y) (by unfold maxLen; omega) (by omega) hst.size
  have hsz := h3.size
  have hkq : ∀ g, q.ownBlock = some g → w'.heap[g]? = w.heap[g]? := fun g hg => h3.block g (own_lt8 hst.snd hg) fun e => hst.apart g e.symm hg
  unfold Oper.wp execOp
  simp only [ho, resolve, invoke, builtin, Sem.run_bind, Sem.run_pure, Result.andThen_ok, List.map_toArray, List.map_cons, List.map_nil, hs, hx]
  rw [hr]
  refine h v' w' ⟨hst.below.trans (below_own hst.fst hst.size h3), by have := hst.size; omega, by rw [List.length_append, List.map_append]; exact h2, own_sameG hst.snd hkq, fun g hg hq => ?_, fun b hb => ?_⟩
  · rcases h4 g hg with e | e
    · exact hst.apart g e hq
    · have := own_lt8 hst.snd hq; omega
  · obtain ⟨b1, b2, b3⟩ := hst.boxes b hb
    refine ⟨(h3.block b.1 b1.lt fun e => b2 e.symm).trans b1, fun e => ?_, b3⟩
    rcases h4 _ e with e | e
    · exact b2 e
    · have := b1.lt; omega
theorem step_snd {ops : Array Oper} {o : Oper} {a : Act} {K : Act → World → Prop} {Q : Exit → Act → World → Prop} {E : Prop} {w0 w : World} (s x : Operand) (base : Nat) {p : Value} (q : Value) {xs ys : List Nat} {bs : List (Nat × Nat)} (y : Nat)
    (hgd : o.guard = none) (ho : o.op = .call { callee := .builtin .append, args := #[s, x], argTypes := #[34, 34] })
    (hs : a.eval s = q) (hst : Two w0 w base p q xs ys bs) {N : Nat} (hx : a.eval x = .slice (some ⟨N, 0, none⟩) 1 1) (hm : (N, y) ∈ bs) (hlen : ys.length ≤ 100000000)
    (h : ∀ v' w', Two w0 w' base p v' xs (ys ++ [y]) bs → K (a.put o.dst v') w') :
    if Region.wanted o (yielded ops a.tmps) = true then Oper.wp Tryz.prog o a w K Q else E :=
  step_fst s x base q y hgd ho hs hst.swap hx hm hlen fun v' w' k => h v' w' k.swap

end Go.Proofs.YtafnjbmeponobaaGreatDoor

namespace Go.Proofs.YtafnjbmeponobaaGreatDoor
open Go.RowKit

theorem bytesLess_ord : ∀ a b : List UInt8, Op.bytesLess a b = decide (ordB a b < 0)
  | [], [] => rfl
  | [], _ :: _ => rfl
  | _ :: _, [] => rfl
  | x :: a, y :: b => by
    have ih := bytesLess_ord a b
    rw [Op.bytesLess]
    unfold ordB at ih ⊢
    rw [List.map_cons, List.map_cons, ordL_cons, ih]
    by_cases h1 : x.toNat < y.toNat
    · have h2 : x < y := h1
      simp [h1, h2]
    · have h2 : ¬ x < y := h1
      by_cases h3 : y.toNat < x.toNat
      · have h4 : ¬ x = y := fun e => by subst e; omega
        simp [h1, h2, h3, h4]
      · have h4 : x = y := UInt8.toNat_inj.1 (by omega)
        simp [h4]
theorem str_toList8 (s : List UInt8) : (str s).toList = s := by simp [str]
theorem ordB_neg (a b : List UInt8) : ordB b a = - ordB a b := by
  unfold ordB
  exact ordL_neg _ _
theorem run_gtr8 (x y : ByteArray) (W : World) : (binOp .gtr 9 (.string x) (.string y)).run Tryz.prog W = .ok (.bool !(Op.bytesLess x.toList y.toList || (x.toList == y.toList))) W := rfl
theorem ordB_beq : ∀ a b : List UInt8, (a == b) = decide (ordB a b = 0)
  | [], [] => rfl
  | [], _ :: _ => rfl
  | _ :: _, [] => rfl
  | x :: a, y :: b => by
    have ih := ordB_beq a b
    unfold ordB at ih ⊢
    rw [List.map_cons, List.map_cons, ordL_cons, List.cons_beq_cons, ih]
    by_cases h1 : x.toNat < y.toNat
    · have h4 : ¬ x = y := fun e => by subst e; omega
      simp [h1, h4]
    · by_cases h3 : y.toNat < x.toNat
      · have h4 : ¬ x = y := fun e => by subst e; omega
        simp [h1, h3, h4]
      · have h4 : x = y := UInt8.toNat_inj.1 (by omega)
        simp [h4]
theorem Two.start {w0 : World} : Two w0 w0 w0.heap.size (.slice none 0 0) (.slice none 0 0) [] [] [] :=
  ⟨Below.refl _ _, Nat.le_refl _, World.ownsRow_nil _ _ _ _, World.ownsRow_nil _ _ _ _, fun g h => by simp [Value.ownBlock] at h, fun b hb => by cases hb⟩

set_option maxRecDepth 100000 in
set_option maxHeartbeats 6400000 in
theorem refCompare8_any (A : Option Addr) (n c : Nat) (t : List RuleL) (a b : List UInt8) (w : World) (h : Tab8 w A n c t) (ha : a.length ≤ 60000) (hb : b.length ≤ 60000) :
    Calls Tryz.prog 22 #[.slice A n c, .string (str a), .string (str b)] w fun e w' => e = .returned (.int .i64 (nCmp t a b)) ∧ Below w.heap.size w w' := by
  have HV := Lib.hid (refGood8_any A n c t a w h ha)
  have HV2 := Lib.hid (fun (W : World) (hW : Below w.heap.size w W) => refGood8_any A n c t b W (h.up hW) hb)
  cases hv : goodT t a with
  | false =>
    rw [hv] at HV
    rw [nCmp_bad (.inl hv)]
    clear h hv
    go_enter Tryz.func22, Tryz.ntmps22
    go_wp2_with fail
    refine HV.out.mono ?_
    rintro e w1 ⟨rfl, k1⟩
    go_wp2
    go_ret
    exact ⟨rfl, k1⟩
  | true =>
    rw [hv] at HV
    cases hv2 : goodT t b with
    | false =>
      rw [hv2] at HV2
      rw [nCmp_bad (.inr hv2)]
      clear h hv hv2
      go_enter Tryz.func22, Tryz.ntmps22
      go_wp2_with fail
      refine HV.out.mono ?_
      rintro e w1 ⟨rfl, k1⟩
      go_wp2_with fail
      refine (HV2.out _ k1).mono ?_
      rintro e w2 ⟨rfl, k2⟩
      go_wp2
      go_ret
      exact ⟨rfl, below_next k1 k2⟩
    | true =>
      rw [hv2] at HV2
      have hvT : validT t = true := (good_parts hv).2
      have HPa := Lib.hid (fun (W : World) (hW : Below w.heap.size w W) => refPrimary8_any A n c t a W (h.up hW) ha)
      have HPb := Lib.hid (fun (W : World) (hW : Below w.heap.size w W) => refPrimary8_any A n c t b W (h.up hW) hb)
      have HEa := Lib.hid (fun (W : World) (hW : Below w.heap.size w W) => refElements_any A n c t a W (h.up hW).arr hvT (by omega))
      have HEb := Lib.hid (fun (W : World) (hW : Below w.heap.size w W) => refElements_any A n c t b W (h.up hW).arr hvT (by omega))
      have HDa := Lib.hid (fun W => refDecompose_any a W (by omega))
      have HDb := Lib.hid (fun W => refDecompose_any b W (by omega))
      have hla := elsT_len t a
      have hlb := elsT_len t b
      have hG : nCmp t a b = cmpE (elsT t a) (elsT t b) (nD a) (nD b) := if_pos ⟨hv, hv2⟩
      have hG1 : nPrim t a = primL (elsT t a) := if_pos hv
      have hG2 : nPrim t b = primL (elsT t b) := if_pos hv2
      rw [hG]
      rw [hG1] at HPa
      rw [hG2] at HPb
      obtain ⟨X, hX⟩ : ∃ X, elsT t a = X := ⟨_, rfl⟩
      obtain ⟨Y, hY⟩ : ∃ Y, elsT t b = Y := ⟨_, rfl⟩
      obtain ⟨D, hD⟩ : ∃ D, nD a = D := ⟨_, rfl⟩
      obtain ⟨E, hE⟩ : ∃ E, nD b = E := ⟨_, rfl⟩
      rw [hX] at HPa HEa hla ⊢
      rw [hY] at HPb HEb hlb ⊢
      rw [hD] at HDa ⊢
      rw [hE] at HDb ⊢
      obtain ⟨R, hR⟩ : ∃ R, cmpE X Y D E = R := ⟨_, rfl⟩
      rw [hR]
      unfold cmpE at hR
      have HR := Lib.hid hR
      clear h hv hv2 hvT hG hG1 hG2 hX hY hD hE hR
      go_enter Tryz.func22, Tryz.ntmps22
      go_wp2_with fail
      refine HV.out.mono ?_
      rintro e w1 ⟨rfl, k1⟩
      go_wp2_with fail
      refine (HV2.out _ k1).mono ?_
      rintro e w2 ⟨rfl, k2⟩
      have b2 := below_next k1 k2
      go_wp2_with fail
      refine (HPa.out _ b2).mono ?_
      rintro e w3 ⟨A3, n3, c3, rfl, hA3, k3⟩
      have b3 := below_next b2 k3
      have HA3 := Lib.hid hA3
      clear hA3
      go_wp2_with fail
      refine (HPb.out _ b3).mono ?_
      rintro e w4 ⟨A4, n4, c4, rfl, hA4, k4⟩
      have b4 := below_next b3 k4
      have hn3 : n3 ≤ 1000000000 := by
        have h1 := HA3.out.len
        have h2 : (primL X).length ≤ X.length := by
          unfold primL
          refine Nat.le_trans (List.length_filter_le _ _) ?_
          rw [List.length_map]
          exact Nat.le_refl _
        omega
      have HC4 := Lib.hid (refOrder_any A3 A4 n3 c3 n4 c4 _ _ w4 (HA3.out.up k4) hA4 hn3)
      obtain ⟨c1, hc1⟩ : ∃ r, ordL (primL X) (primL Y) = r := ⟨_, rfl⟩
      rw [hc1] at HC4 HR
      clear hc1 hA4
      go_wp2_with fail
      refine HC4.out.mono ?_
      rintro e w5 ⟨rfl, k5⟩
      have b5 := below_next b4 k5
      by_cases hz1 : c1 = 0
      · subst hz1
        have HR1 : Hid (thenI (ordL (secL X) (secL Y)) (thenI (ordL (terL X) (terL Y)) (ordB D E)) = R) := Lib.hid HR.out
        clear HC4 HA3 HR
        go_wp2_with fail
        refine (HEa.out _ b5).mono ?_
        rintro e w6 ⟨A6, n6, c6, rfl, hE6, k6⟩
        have b6 := below_next b5 k6
        have HE6 := Lib.hid hE6
        clear hE6
        go_wp2_with fail
        refine (HEb.out _ b6).mono ?_
        rintro e w7 ⟨A7, n7, c7, rfl, hE7, k7⟩
        have b7 := below_next b6 k7
        have HNx := Lib.hid HE6.out.len
        have HNy := Lib.hid hE7.len
        have hn6 : n6 ≤ 1000000 := by have := HNx.out; omega
        have hn7 : n7 ≤ 1000000 := by have := HNy.out; omega
        have HE67 := Lib.hid (HE6.out.up k7)
        have HE77 := Lib.hid hE7
        clear hla hlb hE7 HE6
        go_wp2
        go_loopw [10, 11, 14] (fun pv qv iv_ wr => ∃ (k : Nat), k ≤ n6 ∧ iv_ = .int .i64 (k : Int) ∧ Two w7 wr w7.heap.size pv qv (secL (X.take k)) (terL (X.take k)) []) (fun _ _ iv_ _ => n6 - (intOf iv_).toNat)
        case atStart => exact ⟨0, by omega, rfl, Two.start⟩
        case round =>
          obtain ⟨k, hk, rfl, T⟩ := hrel
          by_cases hlt : k < n6
          · have t1 : decide ((k : Int) < (n6 : Int)) = true := by simp; omega
            have t1' : decide (k < n6) = true := by simpa using hlt
            have kz : (k : Int) < (n6 : Int) := by omega
            obtain ⟨a0, o0, rfl, hA0, hca⟩ := HE67.out.some_ ev_len (by decide) (by omega)
            obtain ⟨y, hy⟩ : ∃ y, X[k]? = some y := ⟨_, List.getElem?_eq_getElem (by have := HNx.out; omega)⟩
            have HCe := Lib.hid (fun (W : World) (hW : Below w7.heap.size w7 W) => And.intro ((hW.cell (p := ⟨a0, o0 + k * 3 + 1, none⟩) hA0).trans (hca k y hy 1 _ rfl)) ((hW.cell (p := ⟨a0, o0 + k * 3 + 2, none⟩) hA0).trans (hca k y hy 2 _ rfl)))
            have hs1 : secL (X.take (k + 1)) = secL (X.take k) ++ [y.2.1] := by rw [take_next hy]; simp [secL]
            have hs2 : terL (X.take (k + 1)) = terL (X.take k) ++ [y.2.2] := by rw [take_next hy]; simp [terL]
            have hl1 : (secL (X.take k)).length ≤ 100000000 := by unfold secL; rw [List.length_map, List.length_take]; omega
            have hl2 : (terL (X.take k)).length ≤ 100000000 := by unfold terL; rw [List.length_map, List.length_take]; omega
            obtain ⟨p, sc, te⟩ := y
            simp only at hs1 hs2
            have HS1 := Lib.hid hs1
            have HS2 := Lib.hid hs2
            have d1 := (HCe.out _ T.below).1
            have d2 := (HCe.out _ T.below).2
            simp only at d1 d2
            clear hca hy hs1 hs2
            have g1 := (HCe.out _ T.drew.below).1
            have g2 := (HCe.out _ T.drew.below).2
            have g3 := (HCe.out _ (T.al sc).below).2
            have g4 := (HCe.out _ (T.al te).below).1
            go_wp2
            go_region_law (first
                | (refine step_fst (.tmp 52) (.tmp 58) w7.heap.size u10 sc rfl rfl rfl (T.al sc).drew rfl (by simp) hl1 ?_; intro v59 w59 T; have d1 := (HCe.out _ T.below).1; have d2 := (HCe.out _ T.below).2; have d2a := (HCe.out _ (T.al te).below).2)
                | (refine step_fst (.tmp 52) (.tmp 58) w7.heap.size u10 sc rfl rfl rfl ((T.al sc).al te).drew rfl (by simp) hl1 ?_; intro v59 w59 T; have d1 := (HCe.out _ T.below).1; have d2 := (HCe.out _ T.below).2; have d2a := (HCe.out _ (T.al te).below).2)
                | (refine step_fst (.tmp 52) (.tmp 58) w7.heap.size u10 sc rfl rfl rfl ((T.al te).al sc).drew rfl (by simp) hl1 ?_; intro v59 w59 T; have d1 := (HCe.out _ T.below).1; have d2 := (HCe.out _ T.below).2; have d2a := (HCe.out _ (T.al te).below).2)
                | (refine step_fst (.tmp 52) (.tmp 58) w7.heap.size u10 sc rfl rfl rfl (T.al sc) rfl (by simp) hl1 ?_; intro v59 w59 T; have d1 := (HCe.out _ T.below).1; have d2 := (HCe.out _ T.below).2; have d2a := (HCe.out _ (T.al te).below).2)
                | (refine step_fst (.tmp 52) (.tmp 58) w7.heap.size u10 sc rfl rfl rfl T rfl (by simp) hl1 ?_; intro v59 w59 T; have d1 := (HCe.out _ T.below).1; have d2 := (HCe.out _ T.below).2; have d2a := (HCe.out _ (T.al te).below).2)
                | (refine step_snd (.tmp 60) (.tmp 66) w7.heap.size u11 te rfl rfl rfl (T.al te).drew rfl (by simp) hl2 ?_; intro v67 w67 T; have d1 := (HCe.out _ T.below).1; have d2 := (HCe.out _ T.below).2; have d1a := (HCe.out _ (T.al sc).below).1)
                | (refine step_snd (.tmp 60) (.tmp 66) w7.heap.size u11 te rfl rfl rfl ((T.al sc).al te).drew rfl (by simp) hl2 ?_; intro v67 w67 T; have d1 := (HCe.out _ T.below).1; have d2 := (HCe.out _ T.below).2; have d1a := (HCe.out _ (T.al sc).below).1)
                | (refine step_snd (.tmp 60) (.tmp 66) w7.heap.size u11 te rfl rfl rfl ((T.al te).al sc).drew rfl (by simp) hl2 ?_; intro v67 w67 T; have d1 := (HCe.out _ T.below).1; have d2 := (HCe.out _ T.below).2; have d1a := (HCe.out _ (T.al sc).below).1)
                | (refine step_snd (.tmp 60) (.tmp 66) w7.heap.size u11 te rfl rfl rfl (T.al te) rfl (by simp) hl2 ?_; intro v67 w67 T; have d1 := (HCe.out _ T.below).1; have d2 := (HCe.out _ T.below).2; have d1a := (HCe.out _ (T.al sc).below).1)
                | (refine step_snd (.tmp 60) (.tmp 66) w7.heap.size u11 te rfl rfl rfl T rfl (by simp) hl2 ?_; intro v67 w67 T; have d1 := (HCe.out _ T.below).1; have d2 := (HCe.out _ T.below).2; have d1a := (HCe.out _ (T.al sc).below).1))
            all_goals
              go_wp2
              go_roundw
              case rel => exact ⟨k + 1, by omega, by go_num, by rw [HS1.out, HS2.out]; exact ⟨T.below, T.size, T.fst, T.snd, T.apart, fun b hb => by cases hb⟩⟩
              case measure => simp [intOf]; omega
          · obtain rfl : k = n6 := by omega
            have t1 : decide ((k : Int) < (k : Int)) = false := by simp
            have t1' : decide (k < k) = false := by simp
            have eX : X.take k = X := List.take_of_length_le (by rw [HNx.out]; exact Nat.le_refl _)
            rw [eX] at T
            obtain ⟨w8, hw8⟩ : ∃ x : World, x = wr := ⟨_, rfl⟩
            subst hw8
            have hA10 := Arr.of_own T.fst
            have hA11 := Arr.of_own T.snd
            have b8 := below_next b7 T.below
            obtain ⟨A10, m10, c10, e10⟩ := hA10.form3
            obtain ⟨A11, m11, c11, e11⟩ := hA11.form3
            subst e10 e11
            have hm10 : m10 ≤ 1000000000 := by have h1 := hA10.len; unfold secL at h1; rw [List.length_map, HNx.out] at h1; omega
            have hm11 : m11 ≤ 1000000000 := by have h1 := hA11.len; unfold terL at h1; rw [List.length_map, HNx.out] at h1; omega
            have HE78 := Lib.hid (HE77.out.up T.below)
            have HA10 := Lib.hid hA10
            have HA11 := Lib.hid hA11
            clear eX T hA10 hA11 HE77 HE67 t1 t1' hlt
            go_wp2
            go_loopw [12, 13, 15] (fun pv qv iv_ wr => ∃ (k : Nat), k ≤ n7 ∧ iv_ = .int .i64 (k : Int) ∧ Two w8 wr w8.heap.size pv qv (secL (Y.take k)) (terL (Y.take k)) []) (fun _ _ iv_ _ => n7 - (intOf iv_).toNat)
            case atStart => exact ⟨0, by omega, rfl, Two.start⟩
            case round =>
              obtain ⟨k, hk, rfl, T⟩ := hrel
              by_cases hlt : k < n7
              · have t1 : decide ((k : Int) < (n7 : Int)) = true := by simp; omega
                have t1' : decide (k < n7) = true := by simpa using hlt
                have kz : (k : Int) < (n7 : Int) := by omega
                obtain ⟨a0, o0, rfl, hA0, hca⟩ := HE78.out.some_ ev_len (by decide) (by omega)
                obtain ⟨y, hy⟩ : ∃ y, Y[k]? = some y := ⟨_, List.getElem?_eq_getElem (by have := HNy.out; omega)⟩
                have HCe := Lib.hid (fun (W : World) (hW : Below w8.heap.size w8 W) => And.intro ((hW.cell (p := ⟨a0, o0 + k * 3 + 1, none⟩) hA0).trans (hca k y hy 1 _ rfl)) ((hW.cell (p := ⟨a0, o0 + k * 3 + 2, none⟩) hA0).trans (hca k y hy 2 _ rfl)))
                have hs1 : secL (Y.take (k + 1)) = secL (Y.take k) ++ [y.2.1] := by rw [take_next hy]; simp [secL]
                have hs2 : terL (Y.take (k + 1)) = terL (Y.take k) ++ [y.2.2] := by rw [take_next hy]; simp [terL]
                have hl1 : (secL (Y.take k)).length ≤ 100000000 := by unfold secL; rw [List.length_map, List.length_take]; omega
                have hl2 : (terL (Y.take k)).length ≤ 100000000 := by unfold terL; rw [List.length_map, List.length_take]; omega
                obtain ⟨p, sc, te⟩ := y
                simp only at hs1 hs2
                have HS1 := Lib.hid hs1
                have HS2 := Lib.hid hs2
                have d1 := (HCe.out _ T.below).1
                have d2 := (HCe.out _ T.below).2
                simp only at d1 d2
                clear hca hy hs1 hs2
                have g1 := (HCe.out _ T.drew.below).1
                have g2 := (HCe.out _ T.drew.below).2
                have g3 := (HCe.out _ (T.al sc).below).2
                have g4 := (HCe.out _ (T.al te).below).1
                go_wp2
                go_region_law (first
                    | (refine step_fst (.tmp 74) (.tmp 80) w8.heap.size u12 sc rfl rfl rfl (T.al sc).drew rfl (by simp) hl1 ?_; intro v81 w81 T; have d1 := (HCe.out _ T.below).1; have d2 := (HCe.out _ T.below).2; have d2a := (HCe.out _ (T.al te).below).2)
                    | (refine step_fst (.tmp 74) (.tmp 80) w8.heap.size u12 sc rfl rfl rfl ((T.al sc).al te).drew rfl (by simp) hl1 ?_; intro v81 w81 T; have d1 := (HCe.out _ T.below).1; have d2 := (HCe.out _ T.below).2; have d2a := (HCe.out _ (T.al te).below).2)
                    | (refine step_fst (.tmp 74) (.tmp 80) w8.heap.size u12 sc rfl rfl rfl ((T.al te).al sc).drew rfl (by simp) hl1 ?_; intro v81 w81 T; have d1 := (HCe.out _ T.below).1; have d2 := (HCe.out _ T.below).2; have d2a := (HCe.out _ (T.al te).below).2)
                    | (refine step_fst (.tmp 74) (.tmp 80) w8.heap.size u12 sc rfl rfl rfl (T.al sc) rfl (by simp) hl1 ?_; intro v81 w81 T; have d1 := (HCe.out _ T.below).1; have d2 := (HCe.out _ T.below).2; have d2a := (HCe.out _ (T.al te).below).2)
                    | (refine step_fst (.tmp 74) (.tmp 80) w8.heap.size u12 sc rfl rfl rfl T rfl (by simp) hl1 ?_; intro v81 w81 T; have d1 := (HCe.out _ T.below).1; have d2 := (HCe.out _ T.below).2; have d2a := (HCe.out _ (T.al te).below).2)
                    | (refine step_snd (.tmp 82) (.tmp 88) w8.heap.size u13 te rfl rfl rfl (T.al te).drew rfl (by simp) hl2 ?_; intro v89 w89 T; have d1 := (HCe.out _ T.below).1; have d2 := (HCe.out _ T.below).2; have d1a := (HCe.out _ (T.al sc).below).1)
                    | (refine step_snd (.tmp 82) (.tmp 88) w8.heap.size u13 te rfl rfl rfl ((T.al sc).al te).drew rfl (by simp) hl2 ?_; intro v89 w89 T; have d1 := (HCe.out _ T.below).1; have d2 := (HCe.out _ T.below).2; have d1a := (HCe.out _ (T.al sc).below).1)
                    | (refine step_snd (.tmp 82) (.tmp 88) w8.heap.size u13 te rfl rfl rfl ((T.al te).al sc).drew rfl (by simp) hl2 ?_; intro v89 w89 T; have d1 := (HCe.out _ T.below).1; have d2 := (HCe.out _ T.below).2; have d1a := (HCe.out _ (T.al sc).below).1)
                    | (refine step_snd (.tmp 82) (.tmp 88) w8.heap.size u13 te rfl rfl rfl (T.al te) rfl (by simp) hl2 ?_; intro v89 w89 T; have d1 := (HCe.out _ T.below).1; have d2 := (HCe.out _ T.below).2; have d1a := (HCe.out _ (T.al sc).below).1)
                    | (refine step_snd (.tmp 82) (.tmp 88) w8.heap.size u13 te rfl rfl rfl T rfl (by simp) hl2 ?_; intro v89 w89 T; have d1 := (HCe.out _ T.below).1; have d2 := (HCe.out _ T.below).2; have d1a := (HCe.out _ (T.al sc).below).1))
                all_goals
                  go_wp2
                  go_roundw
                  case rel => exact ⟨k + 1, by omega, by go_num, by rw [HS1.out, HS2.out]; exact ⟨T.below, T.size, T.fst, T.snd, T.apart, fun b hb => by cases hb⟩⟩
                  case measure => simp [intOf]; omega
              · obtain rfl : k = n7 := by omega
                have t1 : decide ((k : Int) < (k : Int)) = false := by simp
                have t1' : decide (k < k) = false := by simp
                have eY : Y.take k = Y := List.take_of_length_le (by rw [HNy.out]; exact Nat.le_refl _)
                rw [eY] at T
                obtain ⟨w9, hw9⟩ : ∃ x : World, x = wr := ⟨_, rfl⟩
                subst hw9
                have hA12 := Arr.of_own T.fst
                have hA13 := Arr.of_own T.snd
                have b9 := below_next b8 T.below
                obtain ⟨A12, m12, c12, e12⟩ := hA12.form3
                obtain ⟨A13, m13, c13, e13⟩ := hA13.form3
                subst e12 e13
                have HC9 := Lib.hid (refOrder_any A10 A12 m10 c10 m12 c12 _ _ w9 (HA10.out.up T.below) hA12 hm10)
                have HC10 := Lib.hid (fun (W : World) (hW : Below w9.heap.size w9 W) => refOrder_any A11 A13 m11 c11 m13 c13 _ _ W ((HA11.out.up T.below).up hW) (hA13.up hW) hm11)
                obtain ⟨c2, hc2⟩ : ∃ r, ordL (secL X) (secL Y) = r := ⟨_, rfl⟩
                obtain ⟨c3, hc3⟩ : ∃ r, ordL (terL X) (terL Y) = r := ⟨_, rfl⟩
                rw [hc2] at HC9 HR1
                rw [hc3] at HC10 HR1
                clear eY T hA12 hA13 HA10 HA11 HE78 t1 t1' hlt hc2 hc3
                go_wp2_with fail
                refine HC9.out.mono ?_
                rintro e w10 ⟨rfl, k10⟩
                have b10 := below_next b9 k10
                by_cases hz2 : c2 = 0
                · subst hz2
                  have HR2 : Hid (thenI c3 (ordB D E) = R) := Lib.hid HR1.out
                  have HC11 := Lib.hid (HC10.out _ k10)
                  clear HC9 HC10 HR1
                  go_wp2_with fail
                  refine HC11.out.mono ?_
                  rintro e w11 ⟨rfl, k11⟩
                  have b11 := below_next b10 k11
                  by_cases hz3 : c3 = 0
                  · subst hz3
                    have HR3 : Hid (ordB D E = R) := Lib.hid HR2.out
                    clear HC11 HR2
                    go_wp2_with fail
                    refine (HDa.out _).mono ?_
                    rintro e w12 ⟨rfl, k12⟩
                    have b12 := below_next b11 k12
                    go_wp2_with fail
                    refine (HDb.out _).mono ?_
                    rintro e w13 ⟨rfl, k13⟩
                    have b13 := below_next b12 k13
                    have l1 : Op.bytesLess (str D).toList (str E).toList = decide (ordB D E < 0) := by rw [str_toList8, str_toList8]; exact bytesLess_ord D E
                    have l2 : ((str D).toList == (str E).toList) = decide (ordB D E = 0) := by rw [str_toList8, str_toList8]; exact ordB_beq D E
                    rw [HR3.out] at l1 l2
                    have hv : R = -1 ∨ R = 0 ∨ R = 1 := by rw [← HR3.out]; exact ordL_vals _ _
                    clear HR3
                    rcases hv with rfl | rfl | rfl
                    · have q1 : Op.bytesLess (str D).toList (str E).toList = true := by rw [l1]; rfl
                      clear l1 l2
                      go_wp2
                      go_ret
                      exact ⟨rfl, b13⟩
                    · have q1 : Op.bytesLess (str D).toList (str E).toList = false := by rw [l1]; rfl
                      have q2 : ((str D).toList == (str E).toList) = true := by rw [l2]; rfl
                      have q4 : ∀ W, (binOp .gtr 9 (.string (str D)) (.string (str E))).run Tryz.prog W = .ok (.bool false) W := fun W => by rw [run_gtr8, q1, q2]; rfl
                      clear l1 l2
                      go_wp2
                      go_ret
                      exact ⟨rfl, b13⟩
                    · have q1 : Op.bytesLess (str D).toList (str E).toList = false := by rw [l1]; rfl
                      have q2 : ((str D).toList == (str E).toList) = false := by rw [l2]; rfl
                      have q4 : ∀ W, (binOp .gtr 9 (.string (str D)) (.string (str E))).run Tryz.prog W = .ok (.bool true) W := fun W => by rw [run_gtr8, q1, q2]; rfl
                      clear l1 l2
                      go_wp2
                      go_ret
                      exact ⟨rfl, b13⟩
                  · have t9 : (c3 != 0) = true := by simp [hz3]
                    have HE : Hid (c3 = R) := Lib.hid (by rw [← HR2.out]; unfold thenI; rw [if_neg hz3])
                    clear hz3
                    go_wp2
                    go_ret
                    rw [← HE.out]
                    exact ⟨rfl, b11⟩
                · have t9 : (c2 != 0) = true := by simp [hz2]
                  have HE : Hid (c2 = R) := Lib.hid (by rw [← HR1.out]; unfold thenI; rw [if_neg hz2])
                  clear hz2
                  go_wp2
                  go_ret
                  rw [← HE.out]
                  exact ⟨rfl, b10⟩
      · have t9 : (c1 != 0) = true := by simp [hz1]
        have HE : Hid (c1 = R) := Lib.hid (by rw [← HR.out]; unfold thenI; rw [if_neg hz1])
        clear hz1
        go_wp2
        go_ret
        rw [← HE.out]
        exact ⟨rfl, b5⟩

end Go.Proofs.YtafnjbmeponobaaGreatDoor

namespace Go.Proofs.YtafnjbmeponobaaGreatDoor
open Go.RowKit

theorem keyN_zero {t : List RuleL} {s : List UInt8} (h : goodT t s = false) : nKey t s = [] := nKey_bad h

set_option maxRecDepth 20000 in
set_option maxHeartbeats 6400000 in
theorem collateCompare_v (A : Option Addr) (n c : Nat) (t : List RuleL) (a b : List UInt8) (w : World) (hS : Spans w) (h : Given8 w A n c t) (ha : a.length ≤ 9223372036854775807) (hb : b.length ≤ 9223372036854775807) :
    Calls Tryz.prog 4 #[.slice A n c, .string (str a), .string (str b)] w fun e w' => e = .returned (.bool true) ∧ Below w.heap.size w w' := by
  have HAw := Lib.hid (awake8_any w hS)
  have HFw := Lib.hid (fun (W : World) (hW : Below w.heap.size w W) => few8_any A n c t _ 2 2 [a, b] (W.alloc (.cells #[.string (str a), .string (str b)] 9)) ((h.up hW).up ((Below.refl _ _).alloc (Nat.le_refl _) _)) (two_arr a b W) (by omega) (by simp; omega))
  have hA1 := fun (W : World) (hW : Below w.heap.size w W) => hW.alloc hW.size (.cells #[.string (str a), .string (str b)] 9)
  have HA1 := Lib.hid hA1
  cases hf : fewT t [a, b] with
  | false =>
    rw [hf] at HFw
    clear hS h hf hA1
    go_enter Tryz.func4, Tryz.ntmps4
    go_wp2_with fail
    refine HAw.out.mono ?_
    rintro e w1 ⟨rfl, k1⟩
    go_wp2_with fail
    refine (HFw.out _ k1).mono ?_
    rintro e w4 ⟨rfl, k4⟩
    have e4 := below_next (HA1.out _ k1) k4
    go_wp2
    go_ret
    exact ⟨rfl, e4⟩
  | true =>
    rw [hf] at HFw
    have hT := h.tab hf
    obtain ⟨-, -, hs40⟩ := few_parts hf
    have ha4 : a.length ≤ 40 := hs40 a (by simp)
    have hb4 : b.length ≤ 40 := hs40 b (by simp)
    have HOw := Lib.hid (fun (W : World) (hW : Below w.heap.size w W) => own8_any A n c t W (hT.up hW))
    have HPC := Lib.hid (fun (W : World) (hW : Below w.heap.size w W) (A' : Option Addr) (c' : Nat) (h' : Tab8 W A' n c' t) => prCompare_any A' n c' t a b W (hS.below hW) h' (by omega) (by omega))
    have HRC := Lib.hid (fun (W : World) (hW : Below w.heap.size w W) => refCompare8_any A n c t a b W (hT.up hW) (by omega) (by omega))
    have HKa := Lib.hid (fun (W : World) (hW : Below w.heap.size w W) (A' : Option Addr) (c' : Nat) (h' : Tab8 W A' n c' t) => prKeyX_any A' n c' t a W (hS.below hW) h' (by omega))
    have HKb := Lib.hid (fun (W : World) (hW : Below w.heap.size w W) (A' : Option Addr) (c' : Nat) (h' : Tab8 W A' n c' t) => prKeyX_any A' n c' t b W (hS.below hW) h' (by omega))
    have HZ : Hid ((nKey t a).length = 0 ∨ (nKey t b).length = 0 ∨ ordB (nKey t a) (nKey t b) = nCmp t a b) := Lib.hid (by
      cases g1 : goodT t a with
      | false => left; rw [keyN_zero g1]; rfl
      | true =>
        cases g2 : goodT t b with
        | false => right; left; rw [keyN_zero g2]; rfl
        | true => exact .inr (.inr (nKey_order g1 g2)))
    obtain ⟨K, hK⟩ : ∃ K, nCmp t a b = K := ⟨_, rfl⟩
    obtain ⟨X, hX⟩ : ∃ X, nKey t a = X := ⟨_, rfl⟩
    obtain ⟨Y, hY⟩ : ∃ Y, nKey t b = Y := ⟨_, rfl⟩
    rw [hK] at HPC HRC HZ
    rw [hX] at HKa HZ
    rw [hY] at HKb HZ
    have hKK : (K != K) = false := by simp
    have hKE : (K == K) = true := by simp
    clear hS h hf hA1 hT hs40 hK hX hY
    go_enter Tryz.func4, Tryz.ntmps4
    go_wp2_with fail
    refine HAw.out.mono ?_
    rintro e w1 ⟨rfl, k1⟩
    go_wp2_with fail
    refine (HFw.out _ k1).mono ?_
    rintro e w2 ⟨rfl, k2⟩
    have e2 := below_next (HA1.out _ k1) k2
    go_wp2_with fail
    refine (HOw.out _ e2).mono ?_
    rintro e w3 ⟨A3, c3, rfl, hT3, k3⟩
    have e3 := below_next e2 k3
    have HC3 := Lib.hid (HPC.out _ e3 A3 c3 hT3)
    clear hT3
    go_wp2_with fail
    refine HC3.out.mono ?_
    rintro e w4 ⟨rfl, k4⟩
    have e4 := below_next e3 k4
    go_wp2_with fail
    refine (HRC.out _ e4).mono ?_
    rintro e w5 ⟨rfl, k5⟩
    have e5 := below_next e4 k5
    go_wp2_with fail
    refine (HOw.out _ e5).mono ?_
    rintro e w6 ⟨A6, c6, rfl, hT6, k6⟩
    have e6 := below_next e5 k6
    have HC6 := Lib.hid (HKa.out _ e6 A6 c6 hT6)
    clear hT6
    go_wp2_with fail
    refine HC6.out.mono ?_
    rintro e w7 ⟨A7, n7, c7, rfl, hA7, k7⟩
    have e7 := below_next e6 k7
    have HA7 := Lib.hid hA7
    clear hA7
    go_wp2_with fail
    refine (HOw.out _ e7).mono ?_
    rintro e w8 ⟨A8, c8, rfl, hT8, k8⟩
    have e8 := below_next e7 k8
    have HC8 := Lib.hid (HKb.out _ e8 A8 c8 hT8)
    clear hT8
    go_wp2_with fail
    refine HC8.out.mono ?_
    rintro e w9 ⟨A9, n9, c9, rfl, hA9, k9⟩
    have e9 := below_next e8 k9
    have HL7 := Lib.hid HA7.out.len
    have HL9 := Lib.hid hA9.len
    have HC9 := Lib.hid (bytesCompare_any A7 n7 c7 A9 n9 c9 _ _ _ w9 ((HA7.out.up k8).up k9) hA9)
    clear hA9
    by_cases z1 : n7 = 0
    · subst z1
      go_wp2
      go_ret
      exact ⟨rfl, e9⟩
    · have t1 : ((n7 : Int) == 0) = false := eqb_false (by omega)
      by_cases z2 : n9 = 0
      · subst z2
        go_wp2
        go_ret
        exact ⟨rfl, e9⟩
      · have t2 : ((n9 : Int) == 0) = false := eqb_false (by omega)
        have hO : ordB X Y = K := by
          rcases HZ.out with h1 | h1 | h1
          · exact absurd (HL7.out.symm.trans h1) z1
          · exact absurd (HL9.out.symm.trans h1) z2
          · exact h1
        rw [hO] at HC9
        clear z1 z2 hO
        go_wp2_with fail
        refine HC9.out.mono ?_
        rintro e w10 ⟨rfl, rfl⟩
        go_wp2
        go_ret
        exact ⟨rfl, e9⟩

end Go.Proofs.YtafnjbmeponobaaGreatDoor
