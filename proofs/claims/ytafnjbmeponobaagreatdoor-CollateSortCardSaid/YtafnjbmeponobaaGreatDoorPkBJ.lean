/-
  Two rows of numbers of the call's own, appended to in one region that draws its order.
  The reference's Key.
-/
import Derived.Test.YtafnjbmeponobaaGreatDoorPkAF
import Derived.Test.YtafnjbmeponobaaGreatDoorPkAW
import Derived.Test.YtafnjbmeponobaaGreatDoorPkBI
import Derived.Deep.RegionHeld3
namespace Go.Proofs.YtafnjbmeponobaaGreatDoor
open Go.RowKit

/-- In W the rows p and q lie apart, and beside the one-element slices of bs. -/
structure Two (w0 W : World) (base : Nat) (p q : Value) (xs ys : List Nat) (bs : List (Nat × Nat)) : Prop where
  below : Below base w0 W
  size : base ≤ W.heap.size
  fst : W.ownsRow base 3 1 p xs.length (xs.map nv)
  snd : W.ownsRow base 3 1 q ys.length (ys.map nv)
  apart : ∀ g, p.ownBlock = some g → q.ownBlock ≠ some g
  boxes : ∀ b ∈ bs, Box W b.1 3 #[nv b.2] ∧ p.ownBlock ≠ some b.1 ∧ q.ownBlock ≠ some b.1
theorem Two.swap {w0 W : World} {base : Nat} {p q : Value} {xs ys : List Nat} {bs : List (Nat × Nat)} (h : Two w0 W base p q xs ys bs) : Two w0 W base q p ys xs bs :=
  ⟨h.below, h.size, h.snd, h.fst, fun g hq hp => h.apart g hp hq, fun b hb => ⟨(h.boxes b hb).1, (h.boxes b hb).2.2, (h.boxes b hb).2.1⟩⟩
theorem Two.drew {w0 W : World} {base : Nat} {p q : Value} {xs ys : List Nat} {bs : List (Nat × Nat)} (h : Two w0 W base p q xs ys bs) : Two w0 W.drew base p q xs ys bs :=
  ⟨h.below.drew, h.size, h.fst, h.snd, h.apart, h.boxes⟩
theorem own_lt8 {w : World} {base e size n : Nat} {v : Value} {xs : List Value} (h : w.ownsRow base e size v n xs) {g : Nat} (hg : v.ownBlock = some g) : g < w.heap.size := by
  obtain ⟨_, cur, hx⟩ := own_blockG h hg
  exact (Array.getElem?_eq_some_iff.1 hx).1
theorem Two.al {w0 W : World} {base : Nat} {p q : Value} {xs ys : List Nat} {bs : List (Nat × Nat)} (h : Two w0 W base p q xs ys bs) (y : Nat) : Two w0 (W.alloc (.cells #[.int .i64 (y : Int)] 3)) base p q xs ys ((W.heap.size, y) :: bs) := by
  refine ⟨h.below.alloc h.size _, by simp; have := h.size; omega, own_keep_below h.fst ((Below.refl _ _).alloc (Nat.le_refl _) _), own_keep_below h.snd ((Below.refl _ _).alloc (Nat.le_refl _) _), h.apart, fun b hb => ?_⟩
  rcases List.mem_cons.1 hb with rfl | hb
  · exact ⟨Box.made W _ _, fun e => Nat.lt_irrefl _ (own_lt8 h.fst e), fun e => Nat.lt_irrefl _ (own_lt8 h.snd e)⟩
  · exact ⟨(h.boxes b hb).1.alloc _, (h.boxes b hb).2⟩
theorem step_fst {ops : Array Oper} {o : Oper} {a : Act} {K : Act → World → Prop} {Q : Exit → Act → World → Prop} {E : Prop} {w0 w : World} (s x : Operand) (base : Nat) (p : Value) {q : Value} {xs ys : List Nat} {bs : List (Nat × Nat)} (y : Nat)
    (hgd : o.guard = none) (ho : o.op = .call { callee := .builtin .append, args := #[s, x], argTypes := #[34, 34] })
    (hs : a.eval s = p) (hst : Two w0 w base p q xs ys bs) {N : Nat} (hx : a.eval x = .slice (some ⟨N, 0, none⟩) 1 1) (hm : (N, y) ∈ bs) (hlen : xs.length ≤ 100000000)
    (h : ∀ v' w', Two w0 w' base v' q (xs ++ [y]) ys bs → K (a.put o.dst v') w') :
    if Region.wanted o (yielded ops a.tmps) = true then Oper.wp Tryz.prog o a w K Q else E := by
  have hw : Region.wanted o (yielded ops a.tmps) = true := by simp [Region.wanted, hgd]
  rw [if_pos hw]
  obtain ⟨i0, hi, hz0, hz1, hz2⟩ := info_parts info_int
  obtain ⟨hbox, -, -⟩ := hst.boxes (N, y) hm
  have hcell : ∀ j u, ([y].map nv)[j]? = some u → w.cell? ((⟨N, 0, none⟩ : Addr).add j) = some u := by
    intro j u hu
    cases j with
    | zero => simp at hu; subst hu; rw [plain_add]; exact hbox.cell 0
    | succ j => simp at hu
  obtain ⟨v', w', hr, h2, h3, h4⟩ := run_append_where (P := Tryz.prog) w base 34 o.type 3 i0 (.int .i64 0) 8 Tryz.underlying34 hi hz0 hz1 hz2 rfl p xs.length (xs.map nv) hst.fst ⟨N, 0, none⟩ 1 1 ([y].map nv) rfl (by decide) hcell
    (by intro u hu; obtain ⟨y, _, rfl⟩ := List.mem_map.1 hu; exact one_nv y) (by unfold maxLen; omega) (by omega) hst.size
  have hsz := h3.size
  have hkq : ∀ g, q.ownBlock = some g → w'.heap[g]? = w.heap[g]? := fun g hg => h3.block g (own_lt8 hst.snd hg) fun e => hst.apart g e.symm hg
  unfold Oper.wp execOp
  simp only [ho, resolve, invoke, builtin, Sem.run_bind, Sem.run_pure, Result.andThen_ok, List.map_toArray, List.map_cons, List.map_nil, hs, hx]
  rw [hr]
  refine h v' w' ⟨hst.below.trans (below_own hst.fst hst.size h3), by have := hst.size; omega, by rw [List.length_append, List.map_append]; exact h2, own_sameG hst.snd hkq, fun g hg hq => ?_, fun b hb => ?_⟩
  · rcases h4 g hg with e | e
    · exact hst.apart g e hq
    · have := own_lt8 hst.snd hq; omega
  · obtain ⟨b1, b2, b3⟩ := hst.boxes b hb
    refine ⟨(h3.block b.1 b1.lt fun e => b2 e.symm).trans b1, fun e => ?_, b3⟩
    rcases h4 _ e with e | e
    · exact b2 e
    · have := b1.lt; omega
theorem step_snd {ops : Array Oper} {o : Oper} {a : Act} {K : Act → World → Prop} {Q : Exit → Act → World → Prop} {E : Prop} {w0 w : World} (s x : Operand) (base : Nat) {p : Value} (q : Value) {xs ys : List Nat} {bs : List (Nat × Nat)} (y : Nat)
    (hgd : o.guard = none) (ho : o.op = .call { callee := .builtin .append, args := #[s, x], argTypes := #[34, 34] })
    (hs : a.eval s = q) (hst : Two w0 w base p q xs ys bs) {N : Nat} (hx : a.eval x = .slice (some ⟨N, 0, none⟩) 1 1) (hm : (N, y) ∈ bs) (hlen : ys.length ≤ 100000000)
    (h : ∀ v' w', Two w0 w' base p v' xs (ys ++ [y]) bs → K (a.put o.dst v') w') :
    if Region.wanted o (yielded ops a.tmps) = true then Oper.wp Tryz.prog o a w K Q else E :=
  step_fst s x base q y hgd ho hs hst.swap hx hm hlen fun v' w' k => h v' w' k.swap

end Go.Proofs.YtafnjbmeponobaaGreatDoor

namespace Go.Proofs.YtafnjbmeponobaaGreatDoor
open Go.RowKit

set_option maxRecDepth 100000 in
set_option maxHeartbeats 6400000 in
theorem refKey8_any (A : Option Addr) (n c : Nat) (t : List RuleL) (s : List UInt8) (w : World) (h : Tab8 w A n c t) (hs : s.length ≤ 60000) :
    Calls Tryz.prog 17 #[.slice A n c, .string (str s)] w fun e w' => ∃ A' n' c', e = .returned (.slice A' n' c') ∧ Arr bv w' w'.heap.size (.slice A' n' c') (nKey t s) ∧ Below w.heap.size w w' := by
  have HV := Lib.hid (refGood8_any A n c t s w h hs)
  cases hv : goodT t s with
  | false =>
    rw [hv] at HV
    rw [nKey_bad hv]
    clear h hv
    go_enter Tryz.func17, Tryz.ntmps17
    go_wp2_with fail
    refine HV.out.mono ?_
    rintro e w1 ⟨rfl, k1⟩
    go_wp2
    go_ret
    exact ⟨_, _, _, rfl, .inl ⟨rfl, rfl⟩, k1⟩
  | true =>
    rw [hv] at HV
    rw [nKey_good hv]
    have hvT : validT t = true := by
      unfold goodT at hv
      rw [Bool.and_eq_true] at hv
      exact hv.2
    have HEls := Lib.hid (fun (W : World) (hW : Below w.heap.size w W) => refElements_any A n c t s W (h.up hW).arr hvT (by omega))
    have HDc := Lib.hid (fun W => refDecompose_any s W (by omega))
    have hln := elsT_len t s
    have hfl := nD_len s
    have HK := Lib.hid (keyB_eq t s)
    have HOk : Hid (∀ e ∈ elsT t s, okE e) := Lib.hid (els_ok hvT s)
    obtain ⟨i0, hi, hz0, hz1, hz2⟩ := info_parts info_u8k
    obtain ⟨els, hels⟩ : ∃ els, elsT t s = els := ⟨_, rfl⟩
    obtain ⟨f, hf⟩ : ∃ f, nD s = f := ⟨_, rfl⟩
    obtain ⟨R, hR⟩ : ∃ R, keyB t s = R := ⟨_, rfl⟩
    rw [hels] at HEls hln HK HOk
    rw [hf] at HDc HK hfl
    rw [hR] at HK ⊢
    clear h hv hels hvT hf hR
    go_enter Tryz.func17, Tryz.ntmps17
    go_wp2_with fail
    refine HV.out.mono ?_
    rintro e w1 ⟨rfl, k1⟩
    go_wp2_with fail
    refine (HEls.out _ k1).mono ?_
    rintro e w5 ⟨A5, n5, c5, rfl, hE5, k5⟩
    have b5 := below_next k1 k5
    have HN := Lib.hid hE5.len
    have hn5 : n5 ≤ 1000000 := by have := HN.out; omega
    have hfl2 : f.length ≤ 1000000 := by omega
    clear hln hfl
    go_wp2
    go_loopw [6, 7] (fun pv iv_ wr => ∃ (k : Nat) (bs : List UInt8), k ≤ n5 ∧ iv_ = .int .i64 (k : Int) ∧ Hid ((els.take k).flatMap putPrim = bs) ∧ bs.length ≤ 3 * k ∧ wr.ownsRow w5.heap.size 5 1 pv bs.length (bs.map bv) ∧ Below w5.heap.size w5 wr) (fun _ iv_ _ => n5 - (intOf iv_).toNat)
    case atStart => exact ⟨0, [], by omega, rfl, Lib.hid rfl, by simp, World.ownsRow_nil _ _ _ _, Below.refl _ _⟩
    case round =>
      obtain ⟨k, bs, hk, rfl, HO, hol, hown, hb⟩ := hrel
      have hbs := hb.size
      by_cases hlt : k < n5
      · have t1 : decide ((k : Int) < (n5 : Int)) = true := by simp; omega
        have t1' : decide (k < n5) = true := by simpa using hlt
        have kz : (k : Int) < (n5 : Int) := by omega
        obtain ⟨a0, o0, rfl, hA0, hca⟩ := hE5.some_ ev_len (by decide) (by omega)
        obtain ⟨y, hy⟩ : ∃ y, els[k]? = some y := ⟨_, List.getElem?_eq_getElem (by have := HN.out; omega)⟩
        have c0 : wr.cell? ⟨a0, o0 + k * 3, none⟩ = some (.int .i64 (y.1 : Int)) := (hb.cell (p := ⟨a0, o0 + k * 3, none⟩) hA0).trans (hca k y hy 0 _ rfl)
        have hprim := elem_snoc putPrim hy
        have hyo := HOk.out y (List.mem_of_getElem? hy)
        obtain ⟨p, sc, te⟩ := y
        have hpm : p ≤ 10000041 := hyo.1
        simp only [putPrim] at c0 hprim
        clear hyo
        by_cases hp : p = 0
        · subst hp
          have HO2 : Hid ((els.take (k + 1)).flatMap putPrim = bs) := Lib.hid (by rw [hprim, HO.out, if_pos rfl, List.append_nil])
          have c0' : wr.cell? ⟨a0, o0 + k * 3, none⟩ = some (.int .i64 0) := c0
          clear hca hy hprim c0
          go_wp2
          go_roundw
          case rel => exact ⟨k + 1, bs, by omega, by go_num, HO2, by omega, hown, hb⟩
          case measure => simp [intOf]; omega
        · have t2 : ((p : Int) != 0) = true := by simp; omega
          have w1 : IntKind.u8.wrap ((p : Int) / 65536) = ((UInt8.ofNat (p / 65536)).toNat : Int) := by rw [UInt8.toNat_ofNat', IntKind.wrap_u8]; omega
          have w2 : IntKind.u8.wrap ((p : Int) / 256 % 256) = ((UInt8.ofNat (p / 256 % 256)).toNat : Int) := by rw [UInt8.toNat_ofNat', IntKind.wrap_u8]; omega
          have w3 : IntKind.u8.wrap ((p : Int) % 256) = ((UInt8.ofNat (p % 256)).toNat : Int) := by rw [UInt8.toNat_ofNat', IntKind.wrap_u8]; omega
          have q1 : Int.tdiv (p : Int) 65536 = (p : Int) / 65536 := Int.tdiv_eq_ediv_of_nonneg (by omega)
          have q2 : Int.tdiv (p : Int) 256 = (p : Int) / 256 := Int.tdiv_eq_ediv_of_nonneg (by omega)
          have q3 : Int.tmod (p : Int) 256 = (p : Int) % 256 := Int.tmod_eq_emod_of_nonneg (by omega)
          have q4 : Int.tmod ((p : Int) / 256) 256 = (p : Int) / 256 % 256 := Int.tmod_eq_emod_of_nonneg (by omega)
          have v1 : IntKind.i64.wrap ((p : Int) / 65536) = (p : Int) / 65536 := wraps_i64 _ (by omega) (by omega)
          have v2 : IntKind.i64.wrap ((p : Int) / 256) = (p : Int) / 256 := wraps_i64 _ (by omega) (by omega)
          have v3 : IntKind.i64.wrap ((p : Int) % 256) = (p : Int) % 256 := wraps_i64 _ (by omega) (by omega)
          have v4 : IntKind.i64.wrap ((p : Int) / 256 % 256) = (p : Int) / 256 % 256 := wraps_i64 _ (by omega) (by omega)
          rw [if_neg hp] at hprim
          simp only [three, List.map_cons, List.map_nil] at hprim
          obtain ⟨b1, hb1⟩ : ∃ b, UInt8.ofNat (p / 65536) = b := ⟨_, rfl⟩
          obtain ⟨b2, hb2⟩ : ∃ b, UInt8.ofNat (p / 256 % 256) = b := ⟨_, rfl⟩
          obtain ⟨b3, hb3⟩ : ∃ b, UInt8.ofNat (p % 256) = b := ⟨_, rfl⟩
          rw [hb1] at w1
          rw [hb2] at w2
          rw [hb3] at w3
          rw [hb1, hb2, hb3, HO.out] at hprim
          have HO2 := Lib.hid hprim
          have hnew : Arr bv (wr.alloc (.cells #[bv b1, bv b2, bv b3] 5)) (wr.heap.size + 1) (.slice (some ⟨wr.heap.size, 0, none⟩) 3 3) [b1, b2, b3] := Arr.of_box (Box.made wr _ _) rfl (Nat.le_refl _) (fun i u hu => by
            match i, hu with
            | 0, hu => simp at hu; subst hu; rfl
            | 1, hu => simp at hu; subst hu; rfl
            | 2, hu => simp at hu; subst hu; rfl
            | i + 3, hu => simp at hu)
          have hownU := own_keep_below hown ((Below.refl wr.heap.size wr).alloc (Nat.le_refl _) (.cells #[bv b1, bv b2, bv b3] 5))
          have hbU := hb.alloc hbs (.cells #[bv b1, bv b2, bv b3] 5)
          have hbUs := hbU.size
          have hln : bs.length + [b1, b2, b3].length ≤ 1000000000000 := by simp; omega
          clear hb1 hb2 hb3 hca hy hprim hp hown
          go_wp2_with (at_builtin; refine append_arr (val := bv) 30 5 (.int .u8 0) 1 Tryz.underlying30 info_u8k rfl (by decide) one_bv (wr.alloc (.cells #[bv b1, bv b2, bv b3] 5)) rfl (.tmp 31) (.tmp 42) rfl w5.heap.size (wr.heap.size + 1) u6 bs rfl hownU [b1, b2, b3] _ rfl hnew hln hbUs ?_; intro v7 w7 hown7 hb7)
          go_wp2
          go_roundw
          case rel => exact ⟨k + 1, bs ++ [b1, b2, b3], by omega, by go_num, HO2, by rw [List.length_append]; simp; omega, hown7, hbU.trans hb7⟩
          case measure => simp [intOf]; omega
      · obtain rfl : k = n5 := by omega
        have t1 : decide ((k : Int) < (k : Int)) = false := by simp
        have t1' : decide (k < k) = false := by simp
        have HE : Hid (els.flatMap putPrim = bs) := Lib.hid (by have h5 := HO.out; rwa [List.take_of_length_le (by rw [HN.out]; exact Nat.le_refl _)] at h5)
        clear t1 t1' hbs
        obtain ⟨wx, hwx⟩ : ∃ x : World, x = wr := ⟨_, rfl⟩
        subst hwx
        have hbs := hb.size
        have hnew : Arr bv (wx.alloc (.cells #[.int .u8 0, .int .u8 0, .int .u8 0] 5)) (wx.heap.size + 1) (.slice (some ⟨wx.heap.size, 0, none⟩) 3 3) [0, 0, 0] := Arr.of_box (Box.made wx _ _) rfl (Nat.le_refl _) (fun i u hu => by
          match i, hu with
          | 0, hu => simp at hu; subst hu; rfl
          | 1, hu => simp at hu; subst hu; rfl
          | 2, hu => simp at hu; subst hu; rfl
          | i + 3, hu => simp at hu)
        have hownU := own_keep_below hown ((Below.refl wx.heap.size wx).alloc (Nat.le_refl _) (.cells #[.int .u8 0, .int .u8 0, .int .u8 0] 5))
        have hbU := hb.alloc hbs (.cells #[.int .u8 0, .int .u8 0, .int .u8 0] 5)
        have hbUs := hbU.size
        have hln : bs.length + [(0 : UInt8), 0, 0].length ≤ 1000000000000 := by simp; omega
        clear hown
        go_wp2_with (at_builtin; refine append_arr (val := bv) 30 5 (.int .u8 0) 1 Tryz.underlying30 info_u8k rfl (by decide) one_bv (wx.alloc (.cells #[.int .u8 0, .int .u8 0, .int .u8 0] 5)) rfl (.tmp 44) (.tmp 45) rfl w5.heap.size (wx.heap.size + 1) u6 bs rfl hownU [0, 0, 0] _ rfl hnew hln hbUs ?_; intro v7 w7 hown7 hb7)
        have hbW : Below w5.heap.size w5 w7 := hbU.trans hb7
        obtain ⟨bs1, hbs1⟩ : ∃ b, bs ++ [(0 : UInt8), 0, 0] = b := ⟨_, rfl⟩
        rw [hbs1] at hown7
        have HB1 := Lib.hid hbs1
        have hl1 : bs1.length ≤ 3 * k + 3 := by rw [← hbs1, List.length_append]; simp; omega
        clear hbs1 hnew hownU hbU hbUs hln hbs hb hb7
        go_wp2
        go_loopw [6, 9] (fun pv iv_ wr => ∃ (q : Nat) (ds : List UInt8), q ≤ k ∧ iv_ = .int .i64 (q : Int) ∧ Hid (bs1 ++ (els.take q).flatMap putSec = ds) ∧ ds.length ≤ 3 * k + 3 + k + 1 + q ∧ wr.ownsRow w5.heap.size 5 1 pv ds.length (ds.map bv) ∧ Below w5.heap.size w5 wr) (fun _ iv_ _ => k - (intOf iv_).toNat)
        case atStart => exact ⟨0, bs1, by omega, rfl, Lib.hid (by simp), by omega, hown7, hbW⟩
        case round =>
          obtain ⟨q, ds, hq, rfl, HQ2, hol, hown, hb⟩ := hrel
          have hbs := hb.size
          by_cases hlt : q < k
          · have t1 : decide ((q : Int) < (k : Int)) = true := by simp; omega
            have t1' : decide (q < k) = true := by simpa using hlt
            have kz : (q : Int) < (k : Int) := by omega
            obtain ⟨a0, o0, rfl, hA0, hca⟩ := hE5.some_ ev_len (by decide) (by omega)
            obtain ⟨y, hy⟩ : ∃ y, els[q]? = some y := ⟨_, List.getElem?_eq_getElem (by have := HN.out; omega)⟩
            have c0 : wr.cell? ⟨a0, o0 + q * 3 + 1, none⟩ = some (.int .i64 (y.2.1 : Int)) := (hb.cell (p := ⟨a0, o0 + q * 3 + 1, none⟩) hA0).trans (hca q y hy 1 _ rfl)
            have hprim := elem_snoc putSec hy
            have hyo := HOk.out y (List.mem_of_getElem? hy)
            have hW : IntKind.u8.wrap (y.2.1 : Int) = ((UInt8.ofNat y.2.1).toNat : Int) := by
              have h2 : y.2.1 ≤ 255 := by have := hyo; unfold okE at this; omega
              rw [UInt8.toNat_ofNat', IntKind.wrap_u8]
              omega
            have hpy : putSec y = [UInt8.ofNat y.2.1] := rfl
            rw [hpy] at hprim
            clear hpy
            obtain ⟨z, hz⟩ : ∃ z, y.2.1 = z := ⟨_, rfl⟩
            rw [hz] at c0 hW hprim
            obtain ⟨b, hbb⟩ : ∃ b, UInt8.ofNat z = b := ⟨_, rfl⟩
            rw [hbb] at hW hprim
            have HX2 : Hid (bs1 ++ (els.take (q + 1)).flatMap putSec = ds ++ [b]) := Lib.hid (by rw [hprim, ← List.append_assoc, HQ2.out])
            clear hca hy hprim hyo hz hbb
            go_wp2_with (at_builtin; refine append_one (val := bv) 30 5 (.int .u8 0) 1 Tryz.underlying30 info_u8k rfl (by decide) one_bv wr rfl (.tmp 53) (.tmp 60) rfl w5.heap.size u6 ds rfl hown b _ rfl rfl (by omega) hbs ?_; intro v7 w7 hown7 hb7)
            go_wp2
            go_roundw
            case rel => exact ⟨q + 1, ds ++ [b], by omega, by go_num, HX2, by rw [List.length_append]; simp; omega, hown7, hb.trans hb7⟩
            case measure => simp [intOf]; omega
          · obtain rfl : q = k := by omega
            have t1 : decide ((q : Int) < (q : Int)) = false := by simp
            have t1' : decide (q < q) = false := by simp
            have HE2 : Hid (bs1 ++ els.flatMap putSec = ds) := Lib.hid (by have h5 := HQ2.out; rw [List.take_of_length_le (by rw [HN.out]; exact Nat.le_refl _)] at h5; exact h5)
            obtain ⟨wx, hwx⟩ : ∃ x : World, x = wr := ⟨_, rfl⟩
            subst hwx
            clear hlt hown7 hbW
            go_wp2_with (at_builtin; refine append_one (val := bv) 30 5 (.int .u8 0) 1 Tryz.underlying30 info_u8k rfl (by decide) one_bv wx rfl (.tmp 62) (.tmp 63) rfl w5.heap.size u6 ds rfl hown 0 _ rfl rfl (by omega) hbs ?_; intro v8 w8 hown8 hb8)
            have hbW : Below w5.heap.size w5 w8 := hb.trans hb8
            obtain ⟨bs2, hbs2⟩ : ∃ b, ds ++ [(0 : UInt8)] = b := ⟨_, rfl⟩
            rw [hbs2] at hown8
            have HB2 := Lib.hid hbs2
            have hl2 : bs2.length ≤ 3 * q + 3 + q + 1 + q + 1 := by rw [← hbs2, List.length_append]; simp; omega
            obtain ⟨k, hk2⟩ : ∃ k, k = q := ⟨_, rfl⟩
            subst hk2
            clear hbs2 hbs hb hb8 t1 t1' hown
            go_wp2
            go_loopw [6, 10] (fun pv iv_ wr => ∃ (q : Nat) (ds : List UInt8), q ≤ k ∧ iv_ = .int .i64 (q : Int) ∧ Hid (bs2 ++ (els.take q).flatMap putTer = ds) ∧ ds.length ≤ 3 * k + 3 + k + 1 + k + 1 + q ∧ wr.ownsRow w5.heap.size 5 1 pv ds.length (ds.map bv) ∧ Below w5.heap.size w5 wr) (fun _ iv_ _ => k - (intOf iv_).toNat)
            case atStart => exact ⟨0, bs2, by omega, rfl, Lib.hid (by simp), by omega, hown8, hbW⟩
            case round =>
              obtain ⟨q, ds, hq, rfl, HQ3, hol, hown, hb⟩ := hrel
              have hbs := hb.size
              by_cases hlt : q < k
              · have t1 : decide ((q : Int) < (k : Int)) = true := by simp; omega
                have t1' : decide (q < k) = true := by simpa using hlt
                have kz : (q : Int) < (k : Int) := by omega
                obtain ⟨a0, o0, rfl, hA0, hca⟩ := hE5.some_ ev_len (by decide) (by omega)
                obtain ⟨y, hy⟩ : ∃ y, els[q]? = some y := ⟨_, List.getElem?_eq_getElem (by have := HN.out; omega)⟩
                have c0 : wr.cell? ⟨a0, o0 + q * 3 + 2, none⟩ = some (.int .i64 (y.2.2 : Int)) := (hb.cell (p := ⟨a0, o0 + q * 3 + 2, none⟩) hA0).trans (hca q y hy 2 _ rfl)
                have hprim := elem_snoc putTer hy
                have hyo := HOk.out y (List.mem_of_getElem? hy)
                have hW : IntKind.u8.wrap (y.2.2 : Int) = ((UInt8.ofNat y.2.2).toNat : Int) := by
                  have h2 : y.2.2 ≤ 255 := by have := hyo; unfold okE at this; omega
                  rw [UInt8.toNat_ofNat', IntKind.wrap_u8]
                  omega
                have hpy : putTer y = [UInt8.ofNat y.2.2] := rfl
                rw [hpy] at hprim
                clear hpy
                obtain ⟨z, hz⟩ : ∃ z, y.2.2 = z := ⟨_, rfl⟩
                rw [hz] at c0 hW hprim
                obtain ⟨b, hbb⟩ : ∃ b, UInt8.ofNat z = b := ⟨_, rfl⟩
                rw [hbb] at hW hprim
                have HX2 : Hid (bs2 ++ (els.take (q + 1)).flatMap putTer = ds ++ [b]) := Lib.hid (by rw [hprim, ← List.append_assoc, HQ3.out])
                clear hca hy hprim hyo hz hbb
                go_wp2_with (at_builtin; refine append_one (val := bv) 30 5 (.int .u8 0) 1 Tryz.underlying30 info_u8k rfl (by decide) one_bv wr rfl (.tmp 71) (.tmp 78) rfl w5.heap.size u6 ds rfl hown b _ rfl rfl (by omega) hbs ?_; intro v7 w7 hown7 hb7)
                go_wp2
                go_roundw
                case rel => exact ⟨q + 1, ds ++ [b], by omega, by go_num, HX2, by rw [List.length_append]; simp; omega, hown7, hb.trans hb7⟩
                case measure => simp [intOf]; omega
              · obtain rfl : q = k := by omega
                have t1 : decide ((q : Int) < (q : Int)) = false := by simp
                have t1' : decide (q < q) = false := by simp
                have HE3 : Hid (bs2 ++ els.flatMap putTer = ds) := Lib.hid (by have h5 := HQ3.out; rw [List.take_of_length_le (by rw [HN.out]; exact Nat.le_refl _)] at h5; exact h5)
                obtain ⟨wx, hwx⟩ : ∃ x : World, x = wr := ⟨_, rfl⟩
                subst hwx
                clear hlt hown8 hbW
                go_wp2_with (at_builtin; refine append_one (val := bv) 30 5 (.int .u8 0) 1 Tryz.underlying30 info_u8k rfl (by decide) one_bv wx rfl (.tmp 80) (.tmp 81) rfl w5.heap.size u6 ds rfl hown 0 _ rfl rfl (by omega) hbs ?_; intro v9 w9 hown9 hb9)
                have hbW : Below w5.heap.size w5 w9 := hb.trans hb9
                go_wp2_with fail
                refine (HDc.out _).mono ?_
                rintro e wd ⟨rfl, kd⟩
                have hownD := own_keep_below hown9 kd
                have hbD : Below w5.heap.size w5 wd := below_next hbW kd
                have hbDs := hbD.size
                obtain ⟨bs3, hbs3⟩ : ∃ b, ds ++ [(0 : UInt8)] = b := ⟨_, rfl⟩
                have hl3 : bs3.length ≤ 100000000 := by rw [← hbs3, List.length_append]; simp; omega
                rw [hbs3] at hownD
                have HF : Hid (bs3 ++ f = R) := Lib.hid (by
                  rw [HK.out, ← hbs3, ← HE3.out, ← HB2.out, ← HE2.out, ← HB1.out, ← HE.out]
                  rfl)
                obtain ⟨v10, w10, hr, hown10, hg10, -⟩ := Lib.run_append_own_string (P := Tryz.prog) wd w5.heap.size 30 9 30 5 i0 Tryz.underlying30 (by kernel_rfl) hi hz0 hz1 hz2 v9 _ _ hownD (str f) (by rw [str_size]; unfold maxLen; omega) (by rw [str_size]; omega) hbDs
                rw [strCells_str, ← List.map_append, str_size, ← List.length_append, HF.out] at hown10
                have hb10 := below_own hownD hbDs hg10
                have hA := Arr.of_own hown10
                obtain ⟨A7, N7, c7, rfl⟩ := hA.form3
                have HA := Lib.hid hA
                have hbE : Below w5.heap.size w5 w10 := hbD.trans hb10
                clear hown10 hA hg10 hb10 hownD hbs3
                go_wp2_with (at_builtin; refine Lib.wpList_append_run _ rfl (.tmp 82) (.tmp 84) _ _ rfl _ _ rfl rfl _ _ hr ?_)
                go_wp2
                go_ret
                exact ⟨_, _, _, rfl, HA.out, below_next b5 hbE⟩

end Go.Proofs.YtafnjbmeponobaaGreatDoor
