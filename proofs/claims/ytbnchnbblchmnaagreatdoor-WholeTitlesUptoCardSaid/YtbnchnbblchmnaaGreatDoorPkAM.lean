/-
  The reference's plain, folded, Fold, Search, Is, Alike.
  The reference's Search, Is, Alike.
  The reference's Is, Alike of fold.
  The reference's Join of fold.
  Words for strings, over any program: beginnings, rests, comparing.
-/
import Derived.Test.YtbnchnbblchmnaaGreatDoorPkAL
import Derived.Test.YtbnchnbblchmnaaGreatDoorPkAJ
import Derived.Test.YtbnchnbblchmnaaGreatDoorPkAB
namespace Go.Proofs.YtbnchnbblchmnaaGreatDoor
open Go.RowKit

/-! Small letters and plain letters of natural numbers. -/
def lkN (ps : List (Nat × Nat)) (c : Nat) : Nat := match ps.find? fun x => Nat.beq x.1 c with | some x => x.2 | none => 0
theorem lk_nat (ps : List (Nat × Nat)) (c : Nat) : lkI ps (c : Int) = (lkN ps c : Int) := by
  unfold lkI lkN
  have e : (fun x : Nat × Nat => (x.1 : Int) == (c : Int)) = fun x => Nat.beq x.1 c := by
    funext x
    rw [Bool.eq_iff_iff, Nat.beq_eq]
    exact ⟨fun h => by have := eq_of_beq h; omega, fun h => by rw [h]; exact beq_self_eq_true _⟩
  rw [e]
  cases ps.find? fun x => Nat.beq x.1 c <;> rfl
theorem low_nz : ∀ x ∈ lowL, x.2 ≠ 0 := by decide
theorem pl_nz : ∀ x ∈ plL, x.2 ≠ 0 := by decide
theorem lowN_if (c : Nat) : lowN c = if (65 ≤ c ∧ c ≤ 90) ∨ (913 ≤ c ∧ c ≤ 937 ∧ c ≠ 930) ∨ (1040 ≤ c ∧ c ≤ 1071) then c + 32 else if c = 962 then 963 else if lkN lowL c = 0 then c else lkN lowL c := by
  have e : ((inN c 65 90 || (inN c 913 937 && !Nat.beq c 930) || inN c 1040 1071) = true) = ((65 ≤ c ∧ c ≤ 90) ∨ (913 ≤ c ∧ c ≤ 937 ∧ c ≠ 930) ∨ (1040 ≤ c ∧ c ≤ 1071)) := by
    unfold inN
    apply propext
    simp only [Bool.or_eq_true, Bool.and_eq_true, Nat.ble_eq, Bool.not_eq_true', ← Bool.not_eq_true, Nat.beq_eq]
    omega
  unfold lowN lkN
  cases hf : lowL.find? fun x => Nat.beq x.1 c with
  | none => simp only [e, Nat.beq_eq, ↓reduceIte]
  | some x =>
    have h0 := low_nz _ (List.mem_of_find?_eq_some hf)
    simp only [e, Nat.beq_eq, h0, ↓reduceIte]
theorem lowI_nat (c : Nat) : lowI (c : Int) = (lowN c : Int) := by
  rw [lowN_if]
  unfold lowI
  rw [lk_nat]
  by_cases h1 : (65 ≤ c ∧ c ≤ 90) ∨ (913 ≤ c ∧ c ≤ 937 ∧ c ≠ 930) ∨ (1040 ≤ c ∧ c ≤ 1071)
  · rw [if_pos h1, if_pos (by omega)]
    omega
  · rw [if_neg h1, if_neg (show ¬ ((65 ≤ (c : Int) ∧ (c : Int) ≤ 90) ∨ (913 ≤ (c : Int) ∧ (c : Int) ≤ 937 ∧ (c : Int) ≠ 930) ∨ (1040 ≤ (c : Int) ∧ (c : Int) ≤ 1071)) by omega)]
    by_cases h2 : c = 962
    · rw [if_pos h2, if_pos (show (c : Int) = 962 by omega)]
      rfl
    · rw [if_neg h2, if_neg (show ¬ (c : Int) = 962 by omega)]
      by_cases h3 : lkN lowL c = 0
      · rw [if_pos h3, if_pos (show (lkN lowL c : Int) = 0 by omega)]
      · rw [if_neg h3, if_neg (show ¬ (lkN lowL c : Int) = 0 by omega)]
theorem refLower_nat (c : Nat) (w : World) :
    Calls Tryz.prog 83 #[.int .i64 (c : Int)] w fun e w' => e = .returned (.int .i64 (lowN c : Int)) ∧ Below w.heap.size w w' := by
  rw [← lowI_nat]
  exact refLower_any _ _
theorem pl_ok : ∀ x ∈ plL, okC x.1 ∧ okC x.2 := by
  have h : (plL.all fun x => hasN x.1 && hasN x.2) = true := by kernel_rfl
  intro x hx
  have := List.all_eq_true.1 h x hx
  rw [Bool.and_eq_true] at this
  exact ⟨ok_of_has this.1, ok_of_has this.2⟩
theorem listed_plain (c : Nat) (w : World) :
    Calls Tryz.prog 86 #[.string (str [195, 184, 195, 176, 196, 145, 196, 167, 196, 177, 197, 130, 197, 167]), .string (str [111, 100, 100, 104, 105, 108, 116]), .int .i64 (c : Int)] w fun e w' => e = .returned (.int .i64 (lkN plL c : Int)) ∧ Below w.heap.size w w' := by
  rw [← lk_nat]
  exact refListed6_any plL _ _ (by kernel_rfl) (by kernel_rfl) c w pl_ok (by decide)
theorem plain_if (c : Nat) : plainL c = if c = 230 then [97, 101] else if c = 339 then [111, 101] else if c = 254 then [116, 104] else if c = 331 then [110, 103] else if lkN plL c = 0 then [c] else [lkN plL c] := by
  unfold plainL lkN
  cases hf : plL.find? fun x => Nat.beq x.1 c with
  | none => simp only [Nat.beq_eq, ↓reduceIte]
  | some x =>
    have h0 := pl_nz _ (List.mem_of_find?_eq_some hf)
    simp only [Nat.beq_eq, h0, ↓reduceIte]

/-- A slice that holds these characters. -/
def NewArr (w : World) (l : List Nat) (e : Ending) (w' : World) : Prop := ∃ v, e = .returned v ∧ Arr nv w' w'.heap.size v l ∧ Below w.heap.size w w'
theorem arr_one (w : World) (x : Int) (y : Nat) (h : x = (y : Int)) : NewArr w [y] (.returned (.slice (some ⟨w.heap.size, 0, none⟩) 1 1)) (w.alloc (.cells #[.int .i64 x] 3)) := by
  subst h
  refine ⟨_, rfl, (Arr.of_box (val := nv) (xs := [y]) (n := 1) (c := 1) (Box.made w 3 #[.int .i64 (y : Int)]) rfl (Nat.le_refl _) fun i u hu => ?_).more (Box.made w 3 #[.int .i64 (y : Int)]).lt, below_new (Below.refl _ _) _⟩
  cases i with
  | zero => simp at hu; subst hu; rfl
  | succ i => simp at hu
theorem arr_two (w : World) (x x' : Int) (y z : Nat) (h : x = (y : Int)) (h' : x' = (z : Int)) : NewArr w [y, z] (.returned (.slice (some ⟨w.heap.size, 0, none⟩) 2 2)) (w.alloc (.cells #[.int .i64 x, .int .i64 x'] 3)) := by
  subst h h'
  refine ⟨_, rfl, (Arr.of_box (val := nv) (xs := [y, z]) (n := 2) (c := 2) (Box.made w 3 #[.int .i64 (y : Int), .int .i64 (z : Int)]) rfl (Nat.le_refl _) fun i u hu => ?_).more (Box.made w 3 #[.int .i64 (y : Int), .int .i64 (z : Int)]).lt, below_new (Below.refl _ _) _⟩
  match i with
  | 0 => simp at hu; subst hu; rfl
  | 1 => simp at hu; subst hu; rfl
  | i + 2 => simp at hu
theorem NewArr.from {w w1 : World} {l : List Nat} {e : Ending} {w' : World} (h : NewArr w1 l e w') (hb : Below w.heap.size w w1) : NewArr w l e w' := by
  obtain ⟨v, h1, h2, h3⟩ := h
  exact ⟨v, h1, h2, below_next hb h3⟩

set_option maxRecDepth 20000 in
set_option maxHeartbeats 3200000 in
theorem refPlain_any (c : Nat) (w : World) : Calls Tryz.prog 54 #[.int .i64 (c : Int)] w (NewArr w (plainL c)) := by
  obtain ⟨R, hR⟩ : ∃ R, plainL c = R := ⟨_, rfl⟩
  rw [hR]
  rw [plain_if] at hR
  have HLk := Lib.hid (listed_plain c w)
  obtain ⟨x, hx⟩ : ∃ x, lkN plL c = x := ⟨_, rfl⟩
  rw [hx] at hR HLk
  clear hx
  by_cases h1 : c = 230
  · have t1 : ((c : Int) == 230) = true := eqb_true (by omega)
    have HE : Hid (R = [97, 101]) := Lib.hid (by rw [← hR, if_pos h1])
    clear hR h1 HLk
    go_enter Tryz.func54, Tryz.ntmps54
    go_wp2
    go_ret
    rw [HE.out]
    exact arr_two w _ _ _ _ rfl rfl
  have t1 : ((c : Int) == 230) = false := eqb_false (by omega)
  rw [if_neg h1] at hR
  by_cases h2 : c = 339
  · have t2 : ((c : Int) == 339) = true := eqb_true (by omega)
    have HE : Hid (R = [111, 101]) := Lib.hid (by rw [← hR, if_pos h2])
    clear hR h1 h2 HLk
    go_enter Tryz.func54, Tryz.ntmps54
    go_wp2
    go_ret
    rw [HE.out]
    exact arr_two w _ _ _ _ rfl rfl
  have t2 : ((c : Int) == 339) = false := eqb_false (by omega)
  rw [if_neg h2] at hR
  by_cases h3 : c = 254
  · have t3 : ((c : Int) == 254) = true := eqb_true (by omega)
    have HE : Hid (R = [116, 104]) := Lib.hid (by rw [← hR, if_pos h3])
    clear hR h1 h2 h3 HLk
    go_enter Tryz.func54, Tryz.ntmps54
    go_wp2
    go_ret
    rw [HE.out]
    exact arr_two w _ _ _ _ rfl rfl
  have t3 : ((c : Int) == 254) = false := eqb_false (by omega)
  rw [if_neg h3] at hR
  by_cases h4 : c = 331
  · have t4 : ((c : Int) == 331) = true := eqb_true (by omega)
    have HE : Hid (R = [110, 103]) := Lib.hid (by rw [← hR, if_pos h4])
    clear hR h1 h2 h3 h4 HLk
    go_enter Tryz.func54, Tryz.ntmps54
    go_wp2
    go_ret
    rw [HE.out]
    exact arr_two w _ _ _ _ rfl rfl
  have t4 : ((c : Int) == 331) = false := eqb_false (by omega)
  rw [if_neg h4] at hR
  clear h1 h2 h3 h4
  by_cases h0 : x = 0
  · have t9 : ((x : Int) != 0) = false := by rw [h0]; rfl
    have HE : Hid (R = [c]) := Lib.hid (by rw [← hR, if_pos h0])
    clear hR h0
    go_enter Tryz.func54, Tryz.ntmps54
    go_wp2_with fail
    refine HLk.out.mono ?_
    rintro e w1 ⟨rfl, k1⟩
    go_wp2
    go_ret
    rw [HE.out]
    exact (arr_one w1 _ _ rfl).from k1
  · have t9 : ((x : Int) != 0) = true := by simp; omega
    have HE : Hid (R = [x]) := Lib.hid (by rw [← hR, if_neg h0])
    clear hR h0
    go_enter Tryz.func54, Tryz.ntmps54
    go_wp2_with fail
    refine HLk.out.mono ?_
    rintro e w1 ⟨rfl, k1⟩
    go_wp2
    go_ret
    rw [HE.out]
    exact (arr_one w1 _ _ rfl).from k1

/-- append of two integers. -/
theorem append_two6 {ops : Array Oper} {rest : List Oper} {o : Oper} {a : Act} {Q : Exit → Act → World → Prop} (w : World) (hgd : o.guard = none) (s x : Operand)
    (ho : o.op = .call { callee := .builtin .append, args := #[s, x], argTypes := #[27, 27] })
    (base : Nat) (v : Value) (xs : List Nat) (hs : a.eval s = v) (hown : w.ownsRow base 3 1 v xs.length (xs.map nv)) (y z : Nat) (u u' : Value) (hu : u = nv y) (hu' : u' = nv z)
    (hx : a.eval x = .slice (some ⟨w.heap.size, 0, none⟩) 2 2) (hlen : xs.length ≤ 1000000000000 - 2) (hbase : base ≤ w.heap.size)
    (h : ∀ v' w', w'.ownsRow base 3 1 v' (xs ++ [y, z]).length ((xs ++ [y, z]).map nv) → Below base w w' → wpList Tryz.prog ops Q rest (a.put o.dst v') w') : wpList Tryz.prog ops Q (o :: rest) a (w.alloc (.cells #[u, u'] 3)) := by
  refine append_ints (w.alloc (.cells #[u, u'] 3)) hgd s x ho base (w.heap.size + 1) v xs hs (own_keep_below hown ((Below.refl _ _).alloc (Nat.le_refl _) _)) [y, z] _ hx (Arr.of_box (Box.made _ _ _) rfl (Nat.le_refl _) ?_) (by simp; omega) (by simp; omega) ?_
  · intro i q hq
    match i, hq with
    | 0, hq => simp at hq; subst hq; rw [hu]; rfl
    | 1, hq => simp at hq; subst hq; rw [hu']; rfl
    | i + 2, hq => simp at hq
  · intro v' w' h1 h2
    exact h v' w' h1 (((Below.refl _ _).alloc hbase _).trans h2)

/-! folded. -/
theorem low1_len (c : Nat) : (low1 c).length ≤ 2 := by unfold low1; split <;> simp
theorem fold_len : ∀ l : List Nat, (foldL l).length ≤ 2 * l.length
  | [] => by simp [foldL]
  | c :: l => by
    have h := fold_len l
    have h2 := low1_len c
    rw [show foldL (c :: l) = low1 c ++ foldL l from List.flatMap_cons, List.length_append, List.length_cons]
    omega
theorem nFL_len (s : List UInt8) : (nFL s).length ≤ 4 * s.length := by
  have h1 := fold_len (dcF (nL s))
  have h2 := dcF_len (nL s)
  have h3 := nL_len s
  unfold nFL
  omega

set_option maxRecDepth 20000 in
set_option maxHeartbeats 6400000 in
theorem refFolded_any (s : List UInt8) (w : World) (hlen : s.length ≤ 100000) :
    Calls Tryz.prog 52 #[.string (str s)] w fun e w' => ∃ v, e = .returned v ∧ w'.ownsRow w.heap.size 3 1 v (nFL s).length ((nFL s).map nv) ∧ Below w.heap.size w w' := by
  have HD0 := refDecompose_any s w hlen
  obtain ⟨F, hF⟩ : ∃ F, nFL s = F := ⟨_, rfl⟩
  rw [hF]
  obtain ⟨l, hl⟩ : ∃ l, dcF (nL s) = l := ⟨_, rfl⟩
  have hl1 := dcF_len (nL s)
  have hl2 := nL_len s
  rw [hl] at hl1
  obtain ⟨n, hn⟩ : ∃ n, l.length = n := ⟨_, rfl⟩
  have hll : n ≤ 200000 := by omega
  have HF : Hid (F = foldL l) := Lib.hid (by rw [← hF, ← hl]; rfl)
  have HDec := Lib.hid fun W => decode_own l n W (by rw [← hl]; exact dcF_ok s) hn (by omega)
  have e : nD s = encL l := by rw [← hl]; rfl
  rw [e] at HD0
  have HD := Lib.hid HD0
  have HL := Lib.hid hn
  clear hF hl hl1 hl2 hn e HD0
  go_enter Tryz.func52, Tryz.ntmps52
  go_wp2_with fail
  refine HD.out.mono ?_
  rintro e w1 ⟨rfl, hb1⟩
  go_wp2_with fail
  refine (HDec.out _).mono ?_
  rintro e w2 ⟨A, cp, rfl, hA, hb2⟩
  go_wp2
  go_loopw [5, 6] (fun v i wr => ∃ (k : Nat) (O : List Nat), k ≤ n ∧ i = .int .i64 (k : Int) ∧ O.length ≤ 2 * k ∧ Hid (O = foldL (l.take k)) ∧ wr.ownsRow w2.heap.size 3 1 v O.length (O.map nv) ∧ Below w2.heap.size w2 wr) (fun _ i _ => n - (intOf i).toNat)
  case atStart => exact ⟨0, [], by omega, rfl, by simp, Lib.hid rfl, World.ownsRow_nil _ _ _ _, Below.refl _ _⟩
  case round =>
    obtain ⟨k, O, hk, rfl, hOl, HO, hown, hb⟩ := hrel
    have hbs := hb.size
    by_cases hlt : k < n
    · have t1 : decide ((k : Int) < (n : Int)) = true := by simp; omega
      obtain ⟨b0, o0, rfl, hB0, hc0⟩ := hA.some_ (by omega)
      obtain ⟨x, hx⟩ : ∃ a, l[k]? = some a := ⟨_, List.getElem?_eq_getElem (by have := HL.out; omega)⟩
      have d0 := (hb.cell (p := ⟨b0, o0 + k, none⟩) hB0).trans (hc0 k x hx)
      simp only [nv] at d0
      have kz : (k : Int) < (n : Int) := by omega
      have HN : Hid (O ++ low1 x = foldL (l.take (k + 1))) := Lib.hid (by rw [take_next hx, HO.out]; unfold foldL; rw [List.flatMap_append, List.flatMap_cons, List.flatMap_nil, List.append_nil])
      clear hc0 hx
      by_cases h223 : x = 223
      · have t2 : ((x : Int) == 223) = true := eqb_true (by omega)
        have HN2 : Hid (O ++ [115, 115] = foldL (l.take (k + 1))) := Lib.hid (by rw [← HN.out, h223]; rfl)
        have hOl2 : (O ++ [115, 115]).length ≤ 2 * (k + 1) := by rw [List.length_append]; simp; omega
        clear h223
        go_wp2_with (at_builtin; refine append_two6 wr rfl (.tmp 24) (.tmp 25) rfl w2.heap.size u5 O rfl hown 115 115 _ _ rfl rfl rfl (by omega) hbs ?_; intro r1 w3 hown3 hb3)
        go_roundw
        case rel => exact ⟨k + 1, _, by omega, by go_num, hOl2, HN2, hown3, hb.trans hb3⟩
        case measure => simp [intOf]; omega
      · have t2 : ((x : Int) == 223) = false := eqb_false (by omega)
        obtain ⟨y, hy⟩ : ∃ y, lowN x = y := ⟨_, rfl⟩
        have HLow := Lib.hid fun W => refLower_nat x W
        rw [hy] at HLow
        have HN2 : Hid (O ++ [y] = foldL (l.take (k + 1))) := Lib.hid (by rw [← HN.out, ← hy]; unfold low1; rw [beq_false h223]; rfl)
        have hOl2 : (O ++ [y]).length ≤ 2 * (k + 1) := by rw [List.length_append]; simp; omega
        clear h223 hy
        go_wp2_with fail
        refine (HLow.out _).mono ?_
        rintro e w3 ⟨rfl, hb3⟩
        have hown2 := own_keep_below hown hb3
        have hb3s := hb3.size
        go_wp2_with (at_builtin; refine append_int w3 rfl (.tmp 27) (.tmp 33) rfl w2.heap.size u5 O rfl hown2 y _ rfl rfl (by omega) (by omega) ?_; intro r1 w4 hown3 hb4)
        go_roundw
        case rel => exact ⟨k + 1, _, by omega, by go_num, hOl2, HN2, hown3, (below_next hb hb3).trans hb4⟩
        case measure => simp [intOf]; omega
    · obtain rfl : k = n := by omega
      have HE : Hid (F = O) := Lib.hid (by rw [HF.out, HO.out, List.take_of_length_le (by rw [HL.out]; omega)])
      go_wp2
      go_ret
      rw [HE.out]
      exact ⟨_, rfl, own_less (Nat.le_trans hb1.size hb2.size) hown, below_next hb1 (below_next hb2 hb)⟩

end Go.Proofs.YtbnchnbblchmnaaGreatDoor

namespace Go.Proofs.YtbnchnbblchmnaaGreatDoor
open Go.RowKit

/-! The loop of Search: what is out, whether a blank is due, what is left. -/
theorem sqT_word (R : List Nat) : ∀ p : List Nat, (∀ y ∈ p, y ≠ 32) → sqT false (p ++ R) = p ++ sqT false R
  | [], _ => rfl
  | y :: p, h => by rw [List.cons_append, sqT_f (h y (by simp)), sqT_word R p fun z hz => h z (by simp [hz])]; rfl
def sqz (O : List Nat) (sp : Bool) (R : List Nat) : List Nat := if O = [] then sq R else O ++ sqT sp R
theorem sqz_nil (O : List Nat) (sp : Bool) : sqz O sp [] = O := by
  unfold sqz
  by_cases h : O = []
  · rw [if_pos h, h]; rfl
  · rw [if_neg h]; simp [sqT]
theorem sqz_sp (O : List Nat) (sp : Bool) (R : List Nat) : sqz O sp (32 :: R) = sqz O true R := by unfold sqz; rw [sq_sp, sqT_sp]
theorem sqz_f {O : List Nat} {sp : Bool} {p : List Nat} (hp : p ≠ [] ∧ ∀ y ∈ p, y ≠ 32) (h : O = [] ∨ sp = false) (R : List Nat) : sqz O sp (p ++ R) = sqz (O ++ p) false R := by
  obtain ⟨y, q, rfl⟩ : ∃ y q, p = y :: q := by
    cases p with
    | nil => exact absurd rfl hp.1
    | cons y q => exact ⟨y, q, rfl⟩
  have hq : ∀ z ∈ q, z ≠ 32 := fun z hz => hp.2 z (by simp [hz])
  unfold sqz
  rw [if_neg (show ¬ O ++ y :: q = [] by simp)]
  by_cases h0 : O = []
  · subst h0
    rw [if_pos rfl, List.cons_append, sq_cons (hp.2 y (by simp)), sqT_word R q hq]
    rfl
  · have hs : sp = false := h.resolve_left h0
    subst hs
    rw [if_neg h0, sqT_word R (y :: q) hp.2, List.append_assoc]
theorem sqz_t {O p : List Nat} (hp : p ≠ [] ∧ ∀ y ∈ p, y ≠ 32) (h : O ≠ []) (R : List Nat) : sqz O true (p ++ R) = sqz ((O ++ [32]) ++ p) false R := by
  obtain ⟨y, q, rfl⟩ : ∃ y q, p = y :: q := by
    cases p with
    | nil => exact absurd rfl hp.1
    | cons y q => exact ⟨y, q, rfl⟩
  have hq : ∀ z ∈ q, z ≠ 32 := fun z hz => hp.2 z (by simp [hz])
  unfold sqz
  rw [if_neg h, if_neg (show ¬ (O ++ [32]) ++ y :: q = [] by simp), List.cons_append, sqT_t (hp.2 y (by simp)), sqT_word R q hq]
  simp
theorem pl_nsp : ∀ x ∈ plL, x.2 ≠ 32 := by decide
theorem lkN_in (ps : List (Nat × Nat)) (c : Nat) : lkN ps c = 0 ∨ ∃ x ∈ ps, lkN ps c = x.2 := by
  unfold lkN
  cases hf : ps.find? fun x => Nat.beq x.1 c with
  | none => exact .inl rfl
  | some x => exact .inr ⟨x, List.mem_of_find?_eq_some hf, rfl⟩
theorem plain_word {c : Nat} (h : c ≠ 32) : plainL c ≠ [] ∧ ∀ y ∈ plainL c, y ≠ 32 := by
  rw [plain_if]
  split
  · decide
  split
  · decide
  split
  · decide
  split
  · decide
  split
  · simpa using h
  · rcases lkN_in plL c with h1 | ⟨x, h1, h2⟩
    · contradiction
    · rw [h2]
      simpa using pl_nsp x h1
theorem plain_len (c : Nat) : (plainL c).length ≤ 2 := by
  rw [plain_if]
  repeat' split
  all_goals simp
theorem ld_nsp {c : Nat} (h : isLD c = true) : c ≠ 32 := by
  intro e
  rw [e] at h
  have : isLD 32 = false := by decide +kernel
  rw [this] at h
  cases h
theorem drop_at6 {l : List Nat} {k x : Nat} (h : l[k]? = some x) : l.drop k = x :: l.drop (k + 1) := by
  obtain ⟨hl, he⟩ := List.getElem?_eq_some_iff.1 h
  rw [List.drop_eq_getElem_cons hl, he]

set_option maxRecDepth 20000 in
set_option maxHeartbeats 6400000 in
theorem refSearch_any (s : List UInt8) (w : World) (hlen : s.length ≤ 60000) :
    Calls Tryz.prog 23 #[.string (str s)] w fun e w' => e = .returned (.string (str (nSearch s))) ∧ Below w.heap.size w w' := by
  have HD0 := refFolded_any s w (by omega)
  obtain ⟨R, hR⟩ : ∃ R, nSearch s = R := ⟨_, rfl⟩
  rw [hR]
  have hl1 := nFL_len s
  have HR0 : nSearch s = encL (searchL (nFL s)) := rfl
  have HOK0 := dec_ok (nSL_dec s)
  rw [hR] at HR0
  unfold nSL at HOK0
  obtain ⟨l, hl⟩ : ∃ l, nFL s = l := ⟨_, rfl⟩
  rw [hl] at HD0 hl1 HR0 HOK0
  obtain ⟨n, hn⟩ : ∃ n, l.length = n := ⟨_, rfl⟩
  have hll : n ≤ 240000 := by omega
  have HR := Lib.hid HR0
  have HOK := Lib.hid HOK0
  have HD := Lib.hid HD0
  have HL := Lib.hid hn
  clear hR hl1 HR0 HOK0 hl HD0
  go_enter Tryz.func23, Tryz.ntmps23
  go_wp2_with fail
  refine HD.out.mono ?_
  rintro e w1 ⟨v, rfl, hown, hb1⟩
  have hA := Arr.of_own hown
  obtain ⟨A, c, rfl⟩ := hA.form
  rw [hn] at hA ⊢
  clear hn hown HD
  go_wp2
  go_loopw [4, 5, 6] (fun v s i wr => ∃ (k : Nat) (O : List Nat) (sp : Bool), k ≤ n ∧ i = .int .i64 (k : Int) ∧ s = .bool sp ∧ O.length ≤ 3 * k ∧ Hid (searchL l = sqz O sp ((l.drop k).flatMap tokL)) ∧ wr.ownsRow w1.heap.size 3 1 v O.length (O.map nv) ∧ Below w1.heap.size w1 wr) (fun _ _ i _ => n - (intOf i).toNat)
  case atStart => exact ⟨0, [], false, by omega, rfl, rfl, by simp, Lib.hid (by unfold sqz; rw [if_pos rfl]; rfl), World.ownsRow_nil _ _ _ _, Below.refl _ _⟩
  case round =>
    obtain ⟨k, O, sp, hk, rfl, rfl, hOl, HO, hown, hb⟩ := hrel
    have hbs := hb.size
    by_cases hlt : k < n
    · have t1 : decide ((k : Int) < (n : Int)) = true := by simp; omega
      obtain ⟨b0, o0, rfl, hB0, hc0⟩ := hA.some_ (by omega)
      obtain ⟨x, hx⟩ : ∃ a, l[k]? = some a := ⟨_, List.getElem?_eq_getElem (by have := HL.out; omega)⟩
      have d0 := (hb.cell (p := ⟨b0, o0 + k, none⟩) hB0).trans (hc0 k x hx)
      simp only [nv] at d0
      have kz : (k : Int) < (n : Int) := by omega
      have HN : Hid (searchL l = sqz O sp (tokL x ++ (l.drop (k + 1)).flatMap tokL)) := Lib.hid (by rw [HO.out, drop_at6 hx, List.flatMap_cons])
      have hcl := class_any (x : Int) wr
      rw [clsF_eq] at hcl
      obtain ⟨a, ha⟩ : ∃ a, (clsF x).1 = a := ⟨_, rfl⟩
      obtain ⟨kd, hkd⟩ : ∃ kd, kN x = kd := ⟨_, rfl⟩
      rw [ha, show (clsF x).2 = kd from hkd] at hcl
      have HC := Lib.hid hcl
      have HCell : Hid (∀ W, Below w1.heap.size w1 W → W.cell? ⟨b0, o0 + k, none⟩ = some (.int .i64 (x : Int))) := Lib.hid fun W hW => (hW.cell (p := ⟨b0, o0 + k, none⟩) hB0).trans (hc0 k x hx)
      clear hc0 hx ha hcl
      by_cases h2 : kd = 2
      · have t2 : ((kd : Int) == 2) = true := eqb_true (by omega)
        have HN2 : Hid (searchL l = sqz O sp ((l.drop (k + 1)).flatMap tokL)) := Lib.hid (by
          rw [HN.out]
          unfold tokL
          rw [hkd, h2, if_pos (beq_true 2)]
          rfl)
        clear hkd h2
        go_wp2_with fail
        refine HC.out.mono ?_
        rintro e w2 ⟨rfl, q2, rfl⟩
        unfold two
        go_wp2
        go_roundw
        case rel => exact ⟨k + 1, O, sp, by omega, by go_num, rfl, by omega, HN2, own_drewN hown q2, below_drewN hb q2⟩
        case measure => simp [intOf]; omega
      have t2 : ((kd : Int) == 2) = false := eqb_false (by omega)
      by_cases h13 : kd = 1 ∨ kd = 3
      · have hld : isLD x = true := by
          unfold isLD
          rw [hkd]
          rcases h13 with h | h
          · rw [h]; rfl
          · rw [h]; rfl
        have hw := plain_word (ld_nsp hld)
        have hpl := plain_len x
        have htok : tokL x = plainL x := by
          unfold tokL
          rw [hkd, beq_false h2, if_neg (by decide), if_pos hld]
        have HPl := Lib.hid fun W => refPlain_any x W
        obtain ⟨p, hp⟩ : ∃ p, plainL x = p := ⟨_, rfl⟩
        rw [htok] at HN
        rw [hp] at HN hw hpl HPl
        clear htok hp hkd h2 hld
        have hK : ((kd : Int) == 1) = true ∨ ((kd : Int) == 1) = false ∧ ((kd : Int) == 3) = true := by
          rcases h13 with h | h
          · exact .inl (eqb_true (by omega))
          · exact .inr ⟨eqb_false (by omega), eqb_true (by omega)⟩
        clear h13
        obtain ⟨M, hM⟩ : ∃ M, O.length = M := ⟨_, rfl⟩
        obtain ⟨A4, c4, h4⟩ := (Arr.of_own hown).form
        rw [hM] at h4
        subst h4
        have hpl2 : (O ++ p).length ≤ 3 * (k + 1) := by rw [List.length_append]; omega
        have hpl3 : ((O ++ [32]) ++ p).length ≤ 3 * (k + 1) := by rw [List.length_append, List.length_append, List.length_singleton]; omega
        have hO1 : (O ++ [32]).length ≤ 3 * k + 1 := by rw [List.length_append, List.length_singleton]; omega
        have hpl4 : p.length ≤ 2 := hpl
        clear hpl
        by_cases hs : sp = true ∧ 0 < M
        · obtain ⟨rfl, hM0⟩ := hs
          have t5 : decide (0 < M) = true := by simpa using hM0
          have t5' : decide ((0 : Int) < (M : Int)) = true := by simp; omega
          have hO0 : O ≠ [] := fun e => by rw [e] at hM; simp at hM; omega
          have HN2 : Hid (searchL l = sqz ((O ++ [32]) ++ p) false ((l.drop (k + 1)).flatMap tokL)) := Lib.hid (by rw [HN.out, sqz_t hw hO0])
          clear hw hM hO0 HN hM0
          rcases hK with t3 | ⟨t3, t4⟩
          all_goals
            go_wp2_with fail
            refine HC.out.mono ?_
            rintro e w2 ⟨rfl, q2, rfl⟩
            unfold two
            have hown2 := own_drewN hown q2
            go_wp2_with (at_builtin; refine append_int (wr.drewN q2) rfl (.tmp 39) (.tmp 40) rfl w1.heap.size (.slice A4 M c4) O rfl hown2 32 _ rfl rfl (by omega) hbs ?_; intro r1 w3 hown3 hb3; have hb4 := (below_drewN hb q2).trans hb3; have d1 := HCell.out w3 hb4)
            refine (HPl.out _).mono ?_
            rintro e w5 ⟨v5, rfl, hA5, hb5⟩
            have hown5 := own_keep_below hown3 hb5
            have hb6 := below_next hb4 hb5
            have hb6s := hb6.size
            go_wp2_with (at_builtin; refine append_ints w5 rfl (.tmp 42) (.tmp 47) rfl w1.heap.size w5.heap.size r1 (O ++ [32]) rfl hown5 p v5 rfl hA5 (by omega) (by omega) ?_; intro r2 w6 hown6 hb7)
            go_roundw
            case rel => exact ⟨k + 1, (O ++ [32]) ++ p, false, by omega, by go_num, rfl, hpl3, HN2, hown6, hb6.trans hb7⟩
            case measure => simp [intOf]; omega
        · have hs2 : O = [] ∨ sp = false := by
            cases sp with
            | false => exact .inr rfl
            | true =>
              left
              rw [← List.length_eq_zero_iff, hM]
              have : ¬ 0 < M := fun h => hs ⟨rfl, h⟩
              omega
          have HN2 : Hid (searchL l = sqz (O ++ p) false ((l.drop (k + 1)).flatMap tokL)) := Lib.hid (by rw [HN.out, sqz_f hw hs2])
          have hs3 : sp = false ∨ sp = true ∧ M = 0 := by
            cases sp with
            | false => exact .inl rfl
            | true =>
              right
              have : ¬ 0 < M := fun h => hs ⟨rfl, h⟩
              exact ⟨rfl, by omega⟩
          clear hw hM HN hs hs2
          rcases hs3 with rfl | ⟨rfl, hM0⟩
          case' inr =>
            have t5 : decide (0 < M) = false := by simp; omega
            have t5' : decide ((0 : Int) < (M : Int)) = false := by simp; omega
            clear hM0
          all_goals
            rcases hK with t3 | ⟨t3, t4⟩
          all_goals
            go_wp2_with fail
            refine HC.out.mono ?_
            rintro e w2 ⟨rfl, q2, rfl⟩
            unfold two
            have hown2 := own_drewN hown q2
            have hb4 := below_drewN hb q2
            have d1 := HCell.out (wr.drewN q2) hb4
            go_wp2_with fail
            refine (HPl.out _).mono ?_
            rintro e w5 ⟨v5, rfl, hA5, hb5⟩
            have hown5 := own_keep_below hown2 hb5
            have hb6 := below_next hb4 hb5
            have hb6s := hb6.size
            go_wp2_with (at_builtin; refine append_ints w5 rfl (.tmp 42) (.tmp 47) rfl w1.heap.size w5.heap.size (.slice A4 M c4) O rfl hown5 p v5 rfl hA5 (by omega) (by omega) ?_; intro r2 w6 hown6 hb7)
            go_roundw
            case rel => exact ⟨k + 1, O ++ p, false, by omega, by go_num, rfl, hpl2, HN2, hown6, hb6.trans hb7⟩
            case measure => simp [intOf]; omega
      · have t3 : ((kd : Int) == 1) = false := eqb_false (by omega)
        have t4 : ((kd : Int) == 3) = false := eqb_false (by omega)
        have HN2 : Hid (searchL l = sqz O true ((l.drop (k + 1)).flatMap tokL)) := Lib.hid (by
          have hld : isLD x = false := by
            unfold isLD
            rw [hkd, beq_false (show kd ≠ 1 by omega), beq_false (show kd ≠ 3 by omega)]
            rfl
          have htok : tokL x = [32] := by
            unfold tokL
            rw [hkd, beq_false h2, if_neg (by decide), hld, if_neg (by decide)]
          rw [HN.out, htok, List.singleton_append, sqz_sp])
        clear hkd h2 h13 HN
        go_wp2_with fail
        refine HC.out.mono ?_
        rintro e w2 ⟨rfl, q2, rfl⟩
        unfold two
        go_wp2
        go_roundw
        case rel => exact ⟨k + 1, O, true, by omega, by go_num, rfl, by omega, HN2, own_drewN hown q2, below_drewN hb q2⟩
        case measure => simp [intOf]; omega
    · obtain rfl : k = n := by omega
      have hOe : searchL l = O := by
        have h := HO.out
        rw [List.drop_of_length_le (by rw [HL.out]; omega), List.flatMap_nil, sqz_nil] at h
        exact h
      have HE : Hid (R = encL O) := Lib.hid (by rw [HR.out, hOe])
      have hEnc := Lib.hid (encode_own _ u4 O wr hown (fun c hc => HOK.out c (by rw [hOe]; exact hc)) (by omega))
      clear hOe hown
      go_wp2_with fail
      refine hEnc.out.mono ?_
      rintro e w2 ⟨rfl, hb2⟩
      go_wp2
      go_ret
      rw [HE.out]
      exact ⟨rfl, below_next hb1 (below_next hb hb2)⟩

end Go.Proofs.YtbnchnbblchmnaaGreatDoor

namespace Go.Proofs.YtbnchnbblchmnaaGreatDoor
open Go.RowKit

def nIs6 (s : List UInt8) : Bool := decide (s ≠ []) && decide (nSearch s = s)
def nAlike (s t : List UInt8) : Bool := decide (nSearch s ≠ []) && decide (nSearch s = nSearch t)
theorem str_beq_nil {a : List UInt8} (h : a ≠ []) : ((str a).toList == []) = false := by
  rw [str_toList]
  cases a with
  | nil => exact absurd rfl h
  | cons x a => rfl

end Go.Proofs.YtbnchnbblchmnaaGreatDoor

namespace Go.Proofs.YtbnchnbblchmnaaGreatDoor
open Go.RowKit

theorem sqT_len : ∀ (l : List Nat) (p : Bool), (sqT p l).length ≤ 2 * l.length
  | [], _ => by simp [sqT]
  | c :: l, p => by
    have h1 := sqT_len l true
    have h2 := sqT_len l false
    rw [sqT]
    split
    · rw [List.length_cons]; omega
    · rw [List.length_append, List.length_cons, List.length_cons]
      have : (if p = true then [32] else ([] : List Nat)).length ≤ 1 := by split <;> simp
      omega
theorem sq_len : ∀ l : List Nat, (sq l).length ≤ 2 * l.length
  | [] => by simp [sq]
  | c :: l => by
    have h1 := sq_len l
    have h2 := sqT_len l false
    rw [sq]
    split
    · rw [List.length_cons]; omega
    · rw [List.length_cons, List.length_cons]; omega
theorem tok_len (c : Nat) : (tokL c).length ≤ 2 := by
  unfold tokL
  split
  · simp
  split
  · exact plain_len c
  · simp
theorem toks_len : ∀ l : List Nat, (l.flatMap tokL).length ≤ 2 * l.length
  | [] => by simp
  | c :: l => by
    have h1 := toks_len l
    have h2 := tok_len c
    rw [List.flatMap_cons, List.length_append, List.length_cons]
    omega
theorem nSearch_len (s : List UInt8) : (nSearch s).length ≤ 48 * s.length := by
  have h1 := nFL_len s
  have h2 := toks_len (nFL s)
  have h3 := sq_len ((nFL s).flatMap tokL)
  have h4 := encL_len (nSL s)
  have e : nSL s = sq ((nFL s).flatMap tokL) := rfl
  rw [← e] at h3
  unfold nSearch
  omega
theorem step_nil (O : List UInt8) : joinStep O [] = O := by unfold joinStep; rw [if_neg (fun h => h.1 rfl), List.append_nil]
theorem step_out (y : List UInt8) : joinStep [] y = y := by unfold joinStep; rw [if_neg (fun h => h.2 rfl), List.nil_append]
theorem step_both {O y : List UInt8} (h : O ≠ []) (h2 : y ≠ []) : joinStep O y = O ++ 32 :: y := by unfold joinStep; rw [if_pos ⟨h2, h⟩]

end Go.Proofs.YtbnchnbblchmnaaGreatDoor

namespace Go.Proofs.YtbnchnbblchmnaaGreatDoor
open Go.RowKit

theorem str_pre {P : Program} (T : TypeId) (hT : P.underlying T = some .string) (s : List UInt8) (k : Nat) (h : k ≤ s.length) (W : World) :
    (Instr.sliceAt T (.string (str s)) none (some (.int .i64 (k : Int))) none).run P W = .ok (.string (str (s.take k))) W := by
  rw [run_sliceAt_string W _ _ _ _ _ hT, run_slice_string_h W _ _ hT .i64 (k : Int) (by omega) (by show (k : Int) ≤ (s.length : Int); omega)]
  congr 2
  apply ByteArray.ext
  simp [str]
theorem str_suf {P : Program} (T : TypeId) (hT : P.underlying T = some .string) (s : List UInt8) (k : Nat) (h : k ≤ s.length) (W : World) :
    (Instr.sliceAt T (.string (str s)) (some (.int .i64 (k : Int))) none none).run P W = .ok (.string (str (s.drop k))) W := by
  rw [run_sliceAt_string W _ _ _ _ _ hT, run_slice_string_l W _ _ hT .i64 (k : Int) (by omega) (by show (k : Int) ≤ (s.length : Int); omega)]
  congr 2
  apply ByteArray.ext
  simp [str]
  exact List.take_of_length_le (by rw [List.length_drop]; exact Nat.le_refl _)
theorem strs_beq (a b : List UInt8) : ((str a).toList == (str b).toList) = decide (a = b) := by
  rw [str_toList, str_toList]
  by_cases h : a = b
  · rw [h, decide_eq_true rfl]; simp
  · rw [decide_eq_false h]; simpa using h
theorem strs_some {a : List UInt8} (h : a ≠ []) : (str a).toList.isEmpty = false := by
  rw [str_toList]
  cases a with
  | nil => exact absurd rfl h
  | cons x a => rfl
theorem strs_ne {a : List UInt8} (h : a ≠ []) : ((str a).toList == []) = false := by
  rw [str_toList]
  cases a with
  | nil => exact absurd rfl h
  | cons x a => rfl
theorem add_strs {P : Program} {w : World} (a b : List UInt8) (h : a.length + b.length ≤ 9223372036854775807) : (Op.stringOp .add (str a) (str b)).run P w = .ok (.string (str (a ++ b))) w := by
  rw [run_string_add_sum w (str a) (str b) h, str_append]

end Go.Proofs.YtbnchnbblchmnaaGreatDoor
