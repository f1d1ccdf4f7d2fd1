/-
  What the document promises of articles: each article of a language.
  The reference's Languages, Articles.
  Collecting what an iterator gives: slices.Collect over words; the program's Words, Zone.
-/
import Derived.Test.YtbnchnbblchmnaaDoorPkAZ
import Derived.Test.YtbnchnbblchmnaaDoorPkAM
import Derived.Test.YtbnchnbblchmnaaDoorTkEach
import Derived.Test.YtbnchnbblchmnaaDoorPkAY
import Derived.Maps.OwnIn
namespace Go.Proofs.YtbnchnbblchmnaaDoor

def upB (b : UInt8) : UInt8 := if 97 ≤ b ∧ b ≤ 122 then b - 32 else b
/-- An article with its first letter a capital one. -/
def capB : List UInt8 → List UInt8
  | b :: t => if b < 128 then upB b :: t else b :: t
  | [] => []
theorem find_const {α β : Type} {f : α → Option β} {v : β} : ∀ {l : List α}, (∀ b ∈ l, f b = none ∨ f b = some v) → ∀ {a : α}, a ∈ l → f a = some v → l.findSome? f = some v
  | [], _, _, ha, _ => by cases ha
  | b :: l, h, a, ha, hv => by
    rw [List.findSome?_cons]
    rcases h b List.mem_cons_self with e | e
    · rw [e]
      rcases List.mem_cons.1 ha with rfl | ha
      · rw [hv] at e; cases e
      · exact find_const (fun c hc => h c (List.mem_cons_of_mem _ hc)) ha hv
    · rw [e]
/-- What the kernel finds of each article, of either writing. -/
def goodArt (all : List (List UInt8)) (a a' : List UInt8) : Bool :=
  (decR a').isSome && !(a'.contains 32) && (nFold a' == a) && (apoB a' == apoB a) &&
  (if apoB a = true then (a' == [108, 39] || a' == [76, 39]) && (all.all fun b => apoB b || !(b[1]? == some 39))
   else all.all fun b => !(apoB b) || !(nFold (cutR (a' ++ [32]) 2) == b) && Nat.ble 2 (nL (a' ++ [32])).length)
def goodAll (p : List UInt8 × List (List UInt8)) : Bool := (artsOf p.1 == p.2) && p.2.all fun a => goodArt p.2 a a && goodArt p.2 a (capB a)
theorem all_arts : ((langT.zip artT).all goodAll) = true := by decide +kernel
structure GoodArt (all : List (List UInt8)) (a a' : List UInt8) : Prop where
  dec : (decR a').isSome = true
  nsp : 32 ∉ a'
  fold : nFold a' = a
  apo : apoB a' = apoB a
  one : apoB a = true → (a' = [108, 39] ∨ a' = [76, 39]) ∧ ∀ b ∈ all, apoB b = true ∨ b[1]? ≠ some 39
  two : apoB a = false → ∀ b ∈ all, apoB b = true → nFold (cutR (a' ++ [32]) 2) ≠ b ∧ 2 ≤ (nL (a' ++ [32])).length
theorem good_art {lang : List UInt8} {all : List (List UInt8)} (hm : (lang, all) ∈ langT.zip artT) {a : List UInt8} (ha : a ∈ all) {a' : List UInt8} (hc : a' = a ∨ a' = capB a) : artsOf lang = all ∧ GoodArt all a a' := by
  have h1 := List.all_eq_true.1 all_arts _ hm
  unfold goodAll at h1
  simp only [Bool.and_eq_true, List.all_eq_true, beq_iff_eq] at h1
  refine ⟨h1.1, ?_⟩
  have h2 := h1.2 a ha
  have h3 : goodArt all a a' = true := by
    rcases hc with rfl | rfl
    · exact h2.1
    · exact h2.2
  unfold goodArt at h3
  simp only [Bool.and_eq_true, beq_iff_eq, Bool.not_eq_true'] at h3
  obtain ⟨⟨⟨⟨g1, g2⟩, g3⟩, g4⟩, g5⟩ := h3
  refine ⟨g1, fun hm => ?_, g3, g4, fun e => ?_, fun e b hb hbp => ?_⟩
  · rw [List.contains_iff_mem.2 hm] at g2; cases g2
  · rw [if_pos e, Bool.and_eq_true, List.all_eq_true] at g5
    refine ⟨by simpa using g5.1, fun b hb => ?_⟩
    have := g5.2 b hb
    simpa using this
  · rw [if_neg (by rw [e]; exact Bool.false_ne_true), List.all_eq_true] at g5
    have := g5 b hb
    rw [hbp] at this
    simp at this
    exact this
theorem word_rep {k : Nat} (hk : 0 < k) (u : List UInt8) : wordN (List.replicate k 32 ++ u) = 0 := by
  cases k with
  | zero => omega
  | succ k => rw [List.replicate_succ, List.cons_append, wordN, if_pos rfl]
theorem cut_two {p : List Nat} {t : List UInt8} {l : List Nat} (hp : ∀ c ∈ p, okC c) (h : decR (encL p ++ t) = some l) (h2 : 2 ≤ p.length) : cutR (encL p ++ t) 2 = encL (p.take 2) := by
  obtain ⟨m, rfl, _⟩ := enc_split hp h
  rw [cutR_some h (by decide)]
  congr 1
  show (p ++ m).take 2 = p.take 2
  rw [List.take_append_of_le_length h2]
theorem take_cut9 {p : List Nat} {t : List UInt8} : (encL p ++ t).take (encL (p.take 2)).length = encL (p.take 2) := by
  conv => lhs; rw [← List.take_append_drop 2 p, encL_app, List.append_assoc]
  have h : (p.take 2 ++ p.drop 2).take 2 = p.take 2 := by rw [List.take_append_drop]
  rw [h]
  exact List.take_left

theorem dc_apo {c : Nat} (hw : wholeR c = [c]) (q : List Nat) : ∃ z, dcF (c :: 39 :: q) = c :: 39 :: z := by
  have h39 : clM 39 = 0 ∧ wholeR 39 = [39] := by decide +kernel
  have h1 : ∃ z, dcF (39 :: q) = 39 :: z := by
    refine ⟨(sortB clM [] (q.flatMap wholeR)).reverse, ?_⟩
    unfold dcF
    rw [List.flatMap_cons, h39.2]
    exact sort_first h39.1 _
  obtain ⟨z, hz⟩ := h1
  have e : c :: 39 :: q = [c] ++ 39 :: q := rfl
  refine ⟨z, ?_⟩
  rw [e, dcF_join [c] (39 :: q) (fun d hd => by simp at hd; subst hd; exact h39.1), dcF_one, hw, hz]
  rfl
theorem fold_apo {c : Nat} (hc : c = 108 ∨ c = 76) {q : List Nat} (hq : ∀ x ∈ q, okC x) : (nFold (encL (c :: 39 :: q)))[1]? = some 39 := by
  have hf : (wholeR 108 = [108] ∧ low1 108 = [108]) ∧ (wholeR 76 = [76] ∧ low1 76 = [108]) ∧ low1 39 = [39] ∧ okC 108 ∧ okC 76 ∧ okC 39 := by
    refine ⟨by decide +kernel, by decide +kernel, by decide +kernel, ⟨by decide, by decide +kernel⟩, ⟨by decide, by decide +kernel⟩, ⟨by decide, by decide +kernel⟩⟩
  have hw : wholeR c = [c] ∧ low1 c = [108] ∧ okC c := by
    rcases hc with rfl | rfl
    · exact ⟨hf.1.1, hf.1.2, hf.2.2.2.1⟩
    · exact ⟨hf.2.1.1, hf.2.1.2, hf.2.2.2.2.1⟩
  have hok : ∀ x ∈ c :: 39 :: q, okC x := fun x hx => by
    rcases List.mem_cons.1 hx with rfl | hx
    · exact hw.2.2
    · rcases List.mem_cons.1 hx with rfl | hx
      · exact hf.2.2.2.2.2
      · exact hq x hx
  obtain ⟨z, hz⟩ := dc_apo hw.1 q
  rw [fold_enc hok, hz]
  unfold foldL
  rw [List.flatMap_cons, List.flatMap_cons, hw.2.1, hf.2.2.1]
  rfl
theorem dec_two {a t : List UInt8} (h1 : (decR a).isSome = true) (h2 : (decR t).isSome = true) : (decR (a ++ t)).isSome = true := by
  obtain ⟨l, hl⟩ := Option.isSome_iff_exists.1 h1
  obtain ⟨m, hm⟩ := Option.isSome_iff_exists.1 h2
  rw [dec_app hl, hm]
  rfl
theorem dec_rep (k : Nat) : (decR (List.replicate k 32)).isSome = true := by
  rw [← rep_enc, dec_enc _ fun c hc => by rw [(List.mem_replicate.1 hc).2]; exact ok_32]
  rfl
theorem begin_of {lang s : List UInt8} {all : List (List UInt8)} {v : Nat × Nat} (hl : artsOf lang = all) (hd : (decR s).isSome = true) (hv : all.findSome? (artHit s (wordN s) (cutR s 2).length) = some v) (h0 : v.2 ≠ 0) :
    stripN lang s = s.drop v.2 ∧ invN lang s = s.drop v.2 ++ [44, 32] ++ s.take v.1 := by
  have hb : beginN lang s = v := by
    unfold beginN hitsN
    rw [if_pos hd, hl, hv]
    rfl
  unfold stripN skipN invN
  rw [hb, if_neg h0]
  exact ⟨rfl, rfl⟩
theorem art_each1 {lang : List UInt8} {all : List (List UInt8)} (hm : (lang, all) ∈ langT.zip artT) {a : List UInt8} (ha : a ∈ all) {a' : List UInt8} (hc : a' = a ∨ a' = capB a) (hap : apoB a = false) {k : Nat} (hk : 0 < k) {r : List UInt8} (hr : (decR r).isSome = true) (h0 : r ≠ []) (h1 : r.head? ≠ some 32) :
    stripN lang (a' ++ (List.replicate k 32 ++ r)) = r ∧ invN lang (a' ++ (List.replicate k 32 ++ r)) = r ++ [44, 32] ++ a' := by
  obtain ⟨hl, G⟩ := good_art hm ha hc
  obtain ⟨S, hS⟩ : ∃ S, a' ++ (List.replicate k 32 ++ r) = S := ⟨_, rfl⟩
  have hd : (decR S).isSome = true := by rw [← hS]; exact dec_two G.dec (dec_two (dec_rep k) hr)
  have hw : wordN S = a'.length := by rw [← hS, word_app _ G.nsp, word_rep hk]; rfl
  have htk : S.take a'.length = a' := by rw [← hS]; exact List.take_left
  have hdr : S.drop a'.length = List.replicate k 32 ++ r := by rw [← hS]; exact List.drop_left
  have hsp : spN S a'.length = a'.length + k := by unfold spN; rw [hdr, blank_rep k h1]
  have hlen : spN S a'.length < S.length := by
    rw [hsp, ← hS, List.length_append, List.length_append, List.length_replicate]
    have := List.length_pos_iff.2 h0
    omega
  have hdrop : S.drop (a'.length + k) = r := by
    rw [← List.drop_drop, hdr]
    rw [List.drop_append_of_le_length (by rw [List.length_replicate]; exact Nat.le_refl _), List.drop_of_length_le (by rw [List.length_replicate]; exact Nat.le_refl _)]
    rfl
  have hnon : ∀ b, apoB b = false → artHit S (wordN S) (cutR S 2).length b = if a = b then some (a'.length, a'.length + k) else none := by
    intro b hb
    unfold artHit
    rw [if_neg (by rw [hb]; exact Bool.false_ne_true), hw, htk, G.fold]
    by_cases e : a = b
    · rw [if_pos ⟨e, hlen⟩, if_pos e, hsp]
    · rw [if_neg (fun h => e h.1), if_neg e]
  have hv : all.findSome? (artHit S (wordN S) (cutR S 2).length) = some (a'.length, a'.length + k) := by
    refine find_const (fun b hb => ?_) ha (by rw [hnon a hap, if_pos rfl])
    cases hbp : apoB b with
    | false =>
      rw [hnon b hbp]
      split
      · exact .inr rfl
      · exact .inl rfl
    | true =>
      left
      obtain ⟨g1, g2⟩ := G.two hap b hb hbp
      unfold artHit
      rw [if_pos hbp, if_neg]
      rintro ⟨h2, -⟩
      refine g1 ?_
      obtain ⟨p, hp⟩ := Option.isSome_iff_exists.1 (dec_two G.dec (show (decR [32]).isSome = true by exact dec_rep 1))
      obtain ⟨p1, p2⟩ := enc_dec hp
      have hnl : nL (a' ++ [32]) = p := by unfold nL; rw [hp]; rfl
      rw [hnl] at g2
      obtain ⟨j, rfl⟩ : ∃ j, k = j + 1 := ⟨k - 1, by omega⟩
      have hSe : S = encL p ++ (List.replicate j 32 ++ r) := by rw [← hS, p1, List.replicate_succ]; simp
      obtain ⟨l, hls⟩ := Option.isSome_iff_exists.1 hd
      rw [hSe] at hls h2
      rw [cut_two p2 hls g2, take_cut9] at h2
      have hc2 : cutR (a' ++ [32]) 2 = encL (p.take 2) := cutR_some hp (by decide)
      rw [hc2]
      exact h2
  have hb := begin_of hl hd hv (by show a'.length + k ≠ 0; omega)
  simp only at hb
  rw [hdrop, htk] at hb
  rw [hS]
  exact hb
theorem art_each2 {lang : List UInt8} {all : List (List UInt8)} (hm : (lang, all) ∈ langT.zip artT) {a : List UInt8} (ha : a ∈ all) {a' : List UInt8} (hc : a' = a ∨ a' = capB a) (hap : apoB a = true) {r : List UInt8} (hr : (decR r).isSome = true) (h0 : r ≠ []) (h1 : r.head? ≠ some 32) :
    stripN lang (a' ++ r) = r ∧ invN lang (a' ++ r) = r ++ [44, 32] ++ a' := by
  obtain ⟨hl, G⟩ := good_art hm ha hc
  obtain ⟨hone, hall⟩ := G.one hap
  obtain ⟨lr, hlr⟩ := Option.isSome_iff_exists.1 hr
  obtain ⟨r1, r2⟩ := enc_dec hlr
  obtain ⟨c, hcc, hae⟩ : ∃ c, (c = 108 ∨ c = 76) ∧ a' = encL [c, 39] := by
    rcases hone with e | e
    · exact ⟨108, .inl rfl, by rw [e]; decide⟩
    · exact ⟨76, .inr rfl, by rw [e]; decide⟩
  have hoc : ∀ x ∈ [c, 39], okC x := by
    have hf : okC 108 ∧ okC 76 ∧ okC 39 := ⟨⟨by decide, by decide +kernel⟩, ⟨by decide, by decide +kernel⟩, ⟨by decide, by decide +kernel⟩⟩
    intro x hx
    simp only [List.mem_cons, List.not_mem_nil, or_false] at hx
    rcases hx with rfl | rfl
    · rcases hcc with rfl | rfl
      · exact hf.1
      · exact hf.2.1
    · exact hf.2.2
  have hal : a'.length = 2 := by rcases hone with e | e <;> rw [e] <;> rfl
  obtain ⟨S, hS⟩ : ∃ S, a' ++ r = S := ⟨_, rfl⟩
  have hd : (decR S).isSome = true := by rw [← hS]; exact dec_two G.dec hr
  have htk : S.take 2 = a' := by rw [← hS, ← hal]; exact List.take_left
  have hdr : S.drop 2 = r := by rw [← hS, ← hal]; exact List.drop_left
  have hlen : 2 < S.length := by
    rw [← hS, List.length_append, hal]
    have := List.length_pos_iff.2 h0
    omega
  have hat : S[2]? ≠ some 32 := by
    intro e
    refine h1 ?_
    rw [← hdr, List.head?_eq_getElem?, List.getElem?_drop]
    exact e
  have hcut : (cutR S 2).length = 2 := by
    obtain ⟨l, hls⟩ := Option.isSome_iff_exists.1 hd
    rw [← hS, hae] at hls
    rw [← hS, hae, cut_two hoc hls (by simp)]
    rw [show [c, 39].take 2 = [c, 39] from rfl, ← hae, hal]
  have hv : all.findSome? (artHit S (wordN S) (cutR S 2).length) = some (2, 2) := by
    have hapo : ∀ b, apoB b = true → artHit S (wordN S) (cutR S 2).length b = if a = b then some (2, 2) else none := by
      intro b hb
      unfold artHit
      rw [if_pos hb, hcut, htk, G.fold]
      by_cases e : a = b
      · rw [if_pos ⟨e, hlen, hat⟩, if_pos e]
      · rw [if_neg (fun h => e h.1), if_neg e]
    refine find_const (fun b hb => ?_) ha (by rw [hapo a hap, if_pos rfl])
    cases hbp : apoB b with
    | true =>
      rw [hapo b hbp]
      split
      · exact .inr rfl
      · exact .inl rfl
    | false =>
      left
      have hb1 : b[1]? ≠ some 39 := by
        rcases hall b hb with e | e
        · rw [hbp] at e; cases e
        · exact e
      unfold artHit
      rw [if_neg (by rw [hbp]; exact Bool.false_ne_true), if_neg]
      rintro ⟨h2, -⟩
      refine hb1 ?_
      obtain ⟨q, u, q1, q2, q3⟩ := word_enc lr r2
      rw [r1] at q3
      have hw : S.take (wordN S) = encL (c :: 39 :: q) := by
        rw [← hS, word_app _ G.nsp, List.take_append, List.take_of_length_le (by omega), Nat.add_sub_cancel_left, q3, hae, ← encL_app]
        rfl
      rw [hw] at h2
      rw [← h2]
      exact fold_apo hcc fun x hx => r2 x (by rw [q1]; exact List.mem_append_left _ hx)
  have hb := begin_of hl hd hv (by decide)
  simp only at hb
  rw [hdr, htk] at hb
  rw [hS]
  exact hb

end Go.Proofs.YtbnchnbblchmnaaDoor

namespace Go.Proofs.YtbnchnbblchmnaaDoor
open Go.RowKit

theorem strl_beq (a b : List UInt8) : ((str a).toList == b) = decide (a = b) := by
  have h := strs_beq a b
  rwa [str_toList b] at h
theorem arr_made (w : World) (T : TypeId) (L : List (List UInt8)) (n : Nat) (cs : Array Value) (hn : L.length = n) (h : cs = (L.map sv).toArray) :
    Arr sv (w.alloc (.cells cs T)) (w.alloc (.cells cs T)).heap.size (.slice (some ⟨w.heap.size, 0, none⟩) n n) L := by
  subst h
  have hx : Arr sv (w.alloc (.cells (L.map sv).toArray T)) (w.heap.size + 1) (.slice (some ⟨w.heap.size, 0, none⟩) n n) L := Arr.of_box (Box.made w T (L.map sv).toArray) hn (Nat.le_refl _) (fun i u hu => by simp [hu])
  exact hx.more (by simp)

theorem arts_none {lang : List UInt8} (h0 : lang ≠ [100, 97, 110]) (h1 : lang ≠ [100, 117, 116]) (h2 : lang ≠ [101, 110, 103]) (h3 : lang ≠ [102, 114, 101]) (h4 : lang ≠ [103, 101, 114]) (h5 : lang ≠ [103, 114, 101]) (h6 : lang ≠ [105, 116, 97]) (h7 : lang ≠ [112, 111, 114]) (h8 : lang ≠ [115, 112, 97]) (h9 : lang ≠ [115, 119, 101]) : artsOf lang = [] := by
  have hb : ∀ {x y : List UInt8}, y ≠ x → (x == y) = false := fun h => by simpa using fun e => h e.symm
  unfold artsOf langT artT
  simp only [List.zip_cons_cons, List.zip_nil_right, List.find?_cons, List.find?_nil]
  rw [hb h0]
  rw [hb h1]
  rw [hb h2]
  rw [hb h3]
  rw [hb h4]
  rw [hb h5]
  rw [hb h6]
  rw [hb h7]
  rw [hb h8]
  rw [hb h9]
  rfl

end Go.Proofs.YtbnchnbblchmnaaDoor

namespace Go.Proofs.YtbnchnbblchmnaaDoor
open Go.RowKit Go.Shelf Go.Lib
attribute [local go_sem] Oper.semAt_some

/-- append(s, y) of one element inside a fence; the new row is the old one, or a new block. -/
theorem append_struct_in {F : Fence} {n : Nat} {P : Program} {α : Type} {val : α → List Value} {sz : Nat} (t e : TypeId) (z : Value) (bytes : Nat) (ht : P.underlying t = some (.slice e)) (info : (P.info? e).map (fun i => (i.zero, i.size, i.bytes)) = some (some z, sz, bytes))
    (hzs : z.cells.size = sz) (hs0 : 0 < sz) (hbytes : bytes ≤ 100) (hv : ∀ x, (val x).length = sz) (hval : ∀ x, ∀ u ∈ val x, u.oneCell' = true)
    {ops : Array Oper} {rest : List Oper} {o : Oper} {a : Act} {Q : Exit → Act → World → Prop} (w : World) (hgd : o.guard = none) (s x : Operand)
    (ho : o.op = .call { callee := .builtin .append, args := #[s, x], argTypes := #[t, t] })
    (base : Nat) (v : Value) (xs : List α) (hs : a.eval s = v) (hown : w.ownsRow base e sz v xs.length (xs.flatMap val)) (y : α) (u : Array Value) (hu : u = (val y).toArray) (N : Nat) (hN : w.heap.size = N)
    (hx : a.eval x = .slice (some ⟨N, 0, none⟩) 1 1) (hlen : xs.length ≤ 1000000000000 - 1) (hbase : base ≤ w.heap.size)
    (h : ∀ v' w', w'.ownsRow base e sz v' (xs ++ [y]).length ((xs ++ [y]).flatMap val) → w.grownBy w' v.ownBlock → (v'.ownBlock = v.ownBlock ∨ ∃ g, v'.ownBlock = some g ∧ w.heap.size ≤ g) → wpListIn F n P ops Q rest (a.put o.dst v') w') : wpListIn F n P ops Q (o :: rest) a (w.alloc (.cells u e)) := by
  obtain ⟨i0, hi, hz0, hz1, hz2⟩ := info_parts info
  subst hu hN
  have hown1 : (w.alloc (.cells (val y).toArray e)).ownsRow base e sz v xs.length (xs.flatMap val) := own_keep_below hown ((Below.refl _ _).alloc (Nat.le_refl _) _)
  have hcell : ∀ j u, (val y)[j]? = some u → (w.alloc (.cells (val y).toArray e)).cell? ((⟨w.heap.size, 0, none⟩ : Addr).add j) = some u := by
    intro j u hu
    rw [plain_add, (Box.made w e (val y).toArray).cell]
    simpa using hu
  refine wpListIn_append_own_at (w := w.alloc (.cells (val y).toArray e)) hgd s x t ho base e i0 z sz bytes ht hi hz0 hz1 hz2 hzs hs0 v xs.length (xs.flatMap val) hs hown1 ⟨w.heap.size, 0, none⟩ 1 1 (val y) hx (by rw [hv, Nat.one_mul]) hcell (hval y)
    (by unfold maxLen; omega) (by have := Nat.mul_le_mul (show xs.length + 1 ≤ 1000000000000 by omega) hbytes; omega) (by simp; omega) ?_
  intro v' w' h1 h2 _ h4
  refine h v' w' (by rw [List.length_append, List.flatMap_append]; simpa using h1) (grown_trans (grown_of_below _ ((Below.refl _ _).alloc (Nat.le_refl _) _)) h2) ?_
  rcases h4 with h5 | h5
  · exact .inl h5
  · exact .inr ⟨_, h5, by simp⟩

/-- Between two rounds: the variable in block Bx holds a slice of the call's own with what has come. -/
def CollI {α : Type} (w : World) (Bx lo : Nat) (ts e : TypeId) (sz : Nat) (val : α → List Value) (g : Option Nat) (pre : List α) (W : World) : Prop :=
  ∃ v, Boxed W Bx ts v ∧ W.ownsRow lo e sz v pre.length (pre.flatMap val) ∧ g = v.ownBlock ∧ Below w.heap.size w W ∧ lo ≤ W.heap.size

section
variable {α : Type} {w W : World} {Bx lo sz : Nat} {ts e : TypeId} {val : α → List Value} {g : Option Nat} {pre : List α}
theorem CollI.cells (h : CollI w Bx lo ts e sz val g pre W) : ∀ k, g = some k → ∃ o, W.heap[k]? = some o ∧ o.isCells = true := by
  obtain ⟨v, _, hr, hg, _⟩ := h
  intro k ek
  rw [hg] at ek
  rcases hr.2 with ⟨rfl, _⟩ | ⟨g', cap, cur, rfl, _, hgb, _⟩
  · cases ek
  · have : g' = k := by simpa [Value.ownBlock] using ek
    subst this
    exact ⟨_, hgb, rfl⟩
theorem CollI.least (h : CollI w Bx lo ts e sz val g pre W) : ∀ k, g = some k → lo ≤ k := by
  obtain ⟨v, _, hr, hg, _⟩ := h
  intro k ek
  exact (hr.lt k (hg.symm.trans ek)).1
theorem CollI.apart {A B : World} (hB : w.heap.size ≤ Bx) (hlo : Bx < lo) (h : CollI w Bx lo ts e sz val g pre A) (ha : Apart lo g A B) : CollI w Bx lo ts e sz val g pre B := by
  obtain ⟨v, hb, hr, hg, hw, hz⟩ := h
  refine ⟨v, (ha.block Bx hb.lt (.inl (by omega))).trans hb, ⟨hr.1, ?_⟩, hg, ha.below hw (by omega) (Nat.le_refl _), Nat.le_trans hz ha.size⟩
  rcases hr.2 with h | ⟨g', cap, cur, h1, h2, h3, h4⟩
  · exact .inl h
  · refine .inr ⟨g', cap, cur, h1, h2, (ha.block g' (Array.getElem?_eq_some_iff.1 h3).1 (.inr (by rw [hg, h1]; rfl))).trans h3, h4⟩
theorem CollI.start (hb : Boxed W Bx ts (.slice none 0 0)) (hw : Below w.heap.size w W) (hz : lo ≤ W.heap.size) : CollI w Bx lo ts e sz val none [] W :=
  ⟨_, hb, ⟨by simp, .inl ⟨rfl, rfl⟩⟩, rfl, hw, hz⟩
/-- Behind the append and the store. -/
theorem CollI.stored {v v' : Value} {w1 : World} {x : α} {U : Nat → Prop} (hB : w.heap.size ≤ Bx) (hlo : Bx < lo) (hte : ts ≠ e) (hbox : Boxed W Bx ts v) (hrow : W.ownsRow lo e sz v pre.length (pre.flatMap val)) (hg : g = v.ownBlock) (hw : Below w.heap.size w W) (hz : lo ≤ W.heap.size)
    (h1 : w1.ownsRow lo e sz v' (pre ++ [x]).length ((pre ++ [x]).flatMap val)) (h2 : W.grownBy w1 v.ownBlock) (h3 : v'.ownBlock = v.ownBlock ∨ ∃ g, v'.ownBlock = some g ∧ W.heap.size ≤ g) (hU : ∀ k, U k → k < lo ∧ k ≠ Bx) :
    Boxed w1 Bx ts v ∧ CollI w Bx lo ts e sz val v'.ownBlock (pre ++ [x]) (w1.setCell ⟨Bx, 0, none⟩ v') ∧ RoundC lo U g v'.ownBlock W (w1.setCell ⟨Bx, 0, none⟩ v') := by
  have hb1 : Boxed w1 Bx ts v := hbox.kept h2 (hbox.not_row hte hrow)
  have hsz := (grownBy_setCell' w1 Bx v').size
  have hgx : ∀ k, v.ownBlock = some k → lo ≤ k := fun k ek => (hrow.lt k ek).1
  refine ⟨hb1, ⟨v', hb1.set v', h1.kept (grownBy_setCell' w1 Bx v') (.inr fun e2 => ?_), rfl, ?_, Nat.le_trans hz (Nat.le_trans h2.size hsz)⟩, ⟨?_, Nat.le_trans h2.size hsz, fun k hk hUk => ?_⟩⟩
  · have := (h1.lt Bx e2).1
    omega
  · refine (hw.grown h2 hw.size fun k ek => by have := hgx k ek; omega).grown (grownBy_setCell' w1 Bx v') (Nat.le_trans hw.size h2.size) fun k ek => by cases ek; exact hB
  · rw [hg]; exact h3
  · have hkB : k ≠ Bx ∧ v.ownBlock ≠ some k := by
      rcases hUk with h | h
      · have h5 := hU k h
        exact ⟨h5.2, fun e2 => by have := hgx k e2; omega⟩
      · exact ⟨by omega, fun e2 => h.2 (hg.trans e2)⟩
    exact (Below.heap_setCell w1 ⟨Bx, 0, none⟩ v' k (by show k ≠ Bx; exact hkB.1)).trans (h2.block k hk (fun e2 => hkB.2 e2.symm))
end

/-- A word's two cells. -/
def wvN (x : WordL) : List Value := [.string (str x.1), .int .i64 (x.2 : Int)]
theorem wvN_len (x : WordL) : (wvN x).length = 2 := rfl
theorem wvN_one (x : WordL) : ∀ u ∈ wvN x, u.oneCell' = true := by
  intro u hu
  unfold wvN at hu
  simp only [List.mem_cons, List.not_mem_nil, or_false] at hu
  rcases hu with rfl | rfl <;> rfl
theorem word_ne : (23 : TypeId) ≠ 46 := by decide

set_option maxRecDepth 100000 in
set_option maxHeartbeats 4000000 in
theorem appendSeq_any (n : Nat) (hn : 2 ≤ n) (gf : Nat) (lb : Array Value) (eg : ∀ args w, (callFunc gf args).run Tryd.prog w = .ok (.enter gf args) w) (Z : List WordL) (hZ : Z.length ≤ 1000000000) (w : World)
    (hseq : ∀ W, W = w.alloc (.cells #[.slice none 0 0] 23) → SeqC Fence.wide (n - 1) Tryd.prog gf lb (fun x : WordL => #[wvE x]) (fun k => k < W.heap.size ∧ k ≠ w.heap.size) (fun xs => xs = Z) Z.length W) :
    CallsIn Fence.wide n Tryd.prog 35 #[.slice none 0 0, .func (.func gf) #[] lb] w fun e w' => ∃ v, e = .returned v ∧ w'.ownsRow (w.heap.size + 1) 46 2 v Z.length (Z.flatMap wvN) ∧ Below w.heap.size w w' := by
  refine callsIn_of_wp_marks Tryd.func35 rfl trivial ?_ rfl
  simp only [Tryd.ntmps35, List.size_toArray, List.length_cons, List.length_nil, Nat.reduceAdd, Nat.reduceSub, Array.replicate_succ, Array.replicate_zero, List.push_toArray, List.append_toArray, List.nil_append, List.cons_append]
  gi_wp2
  have hst : CollI w w.heap.size (w.heap.size + 1) 23 46 2 wvN none [] (w.alloc (.cells #[.slice none 0 0] 23)) := CollI.start (Boxed.new _ _ _) ((Below.refl _ w).alloc (Nat.le_refl _) _) (by simp)
  have hs := hseq _ rfl
  obtain ⟨W0, hW0⟩ : ∃ W0, w.alloc (.cells #[.slice none 0 0] 23) = W0 := ⟨_, rfl⟩
  have hsz : W0.heap.size = w.heap.size + 1 := by rw [← hW0]; simp
  rw [hW0] at hst hs ⊢
  clear hW0 hseq
  have hsz' := hsz.symm
  refine wpIn_rangeFunc_sep rfl (by omega) rfl trivial eg hs (Below.refl _ _) (fun _ => rfl) (CollI w w.heap.size (w.heap.size + 1) 23 46 2 wvN)
    (fun g s A h => h.cells) (fun g s A B h ha => h.apart (Nat.le_refl _) (Nat.lt_succ_self _) (by rw [hsz] at ha; exact ha)) none hst
    (fun x a' W => ∃ B, W.heap[B]? = some (.cells #[.string (str x.1), .int .i64 (x.2 : Int)] 46 (0, 0)) ∧ a' = { tmps := #[.slice none 0 0, .func (.func gf) #[] lb, .pointer (some ⟨w.heap.size, 0, none⟩), undef, .slice none 0 0, .pointer (some ⟨B, 0, none⟩), .func (.func gf) #[] lb, wvE x, undef, undef, undef, undef, undef], defers := [] })
    (fun x a' A k o o' hx hk ho => by
      obtain ⟨B, h1, h2⟩ := hx
      exact ⟨B, (World.putObj_heap_other (fun e => by rw [e, hk] at h1; cases h1; cases ho)).trans h1, h2⟩) ?assign ?body ?done
  case assign =>
    intro l go pre x W K hi hK
    unfold wvE
    gi_wp2
    have hb := (Below.refl W.heap.size W).alloc (Nat.le_refl _) (.cells #[.string (str x.1), .int .i64 (x.2 : Int)] 46)
    exact hK _ _ (RoundC.of_below hb) (hi.apart (Nat.le_refl _) (Nat.lt_succ_self _) (Apart.of_below hb)) ⟨W.heap.size, World.alloc_heap_new W _, rfl⟩
  case body =>
    rintro l go pre x a' W ⟨v, hbox, hrow, hg, hw, hz⟩ ⟨B, hB, rfl⟩ hlt
    have hc := hbox.cell
    have d0 : W.cell? ⟨B, 0, none⟩ = some (.string (str x.1)) := by simp [World.cell?, hB]
    have d1 : W.cell? ⟨B, 1, none⟩ = some (.int .i64 (x.2 : Int)) := by simp [World.cell?, hB]
    have hws := hw.size
    have hbw := hbox.lt
    have HB := Lib.hid hbox
    have HR := Lib.hid hrow
    have HG := Lib.hid hg
    have HW := Lib.hid hw
    clear hB hbox hrow hg hw hs
    gi_wp2_with (gi_at_builtin; refine append_struct_in (val := wvN) 23 46 (.agg #[.string ⟨#[]⟩, .int .i64 0]) 24 Tryd.underlying23 info_word rfl (by decide) (by decide) wvN_len wvN_one W rfl (.tmp 8) (.tmp 10) rfl (w.heap.size + 1) v pre rfl HR.out x #[.string (str x.1), .int .i64 (x.2 : Int)] rfl W.heap.size rfl rfl (by omega) (by omega) ?_; intro v' w1 hown' hgrow hwh; obtain ⟨hb1, hC, hRd⟩ := CollI.stored (U := fun k => k < W0.heap.size ∧ k ≠ w.heap.size) (Nat.le_refl _) (Nat.lt_succ_self _) word_ne HB.out HR.out HG.out HW.out hz hown' hgrow hwh (fun k hk => ⟨by omega, hk.2⟩); have hc1 := hb1.cell; have hf1 := hb1.frozen; rw [List.length_append, List.length_singleton] at hown'; obtain ⟨g', cap, rfl⟩ := ownsRow_succ hown'; have HC := Lib.hid hC; have HRd := Lib.hid hRd; clear hown' hgrow hwh hC hRd hb1)
    exact ⟨_, HC.out, by have h5 := HRd.out; rw [hsz] at h5; rw [hsz]; exact h5⟩
  case done =>
    rintro D xs go W hD rfl ⟨v, hbox, hrow, hg, hw, hz⟩ hDef
    have hc := hbox.cell
    have hbl : v.ownBlock = none ∨ v.ownBlock ≠ some D := by
      cases hv : v.ownBlock with
      | none => exact .inl rfl
      | some k =>
        refine .inr fun e => ?_
        obtain ⟨o, h1, h2⟩ := CollI.cells (w := w) (Bx := w.heap.size) (lo := w.heap.size + 1) (val := wvN) (g := go) (pre := xs) ⟨v, hbox, hrow, hg, hw, hz⟩ D (by rw [hg, hv]; exact e)
        rw [hDef] at h1; cases h1; cases h2
    have HR := Lib.hid hrow
    have HW := Lib.hid hw
    clear hrow hw hbox hs hg
    gi_wp2
    refine ⟨by simp, .inl ⟨_, _, rfl, run_takeDeferred hDef, ?_⟩⟩
    exact ⟨_, results_tmp rfl _ _ _, v, rfl, HR.out.kept (grownBy_putObj' W D _) hbl, HW.out.grown (grownBy_putObj' W D _) HW.out.size (fun k e => by cases e; omega)⟩

theorem zone_len (G : Nat) (ls : List (List UInt8)) : (∀ s ∈ ls, s.length ≤ 5000) → (zoneP G ls).length ≤ ls.length * 240001 := by
  refine list_snoc (fun l => (∀ s ∈ l, s.length ≤ 5000) → (zoneP G l).length ≤ l.length * 240001) (fun _ => by simp [zoneP]) (fun l s ih h => ?_) ls
  have h1 := ih fun x hx => h x (List.mem_append_left _ hx)
  have h2 := texts_len s
  have h3 := h s (List.mem_append_right _ (List.mem_singleton.2 rfl))
  rw [zone_snoc, List.length_append, List.length_zipIdx, List.length_append, List.length_singleton, Nat.add_mul, Nat.one_mul]
  omega
theorem castT_len' (l : List WordL) : (castW l).length = l.length := by unfold castW; rw [List.length_map]
theorem flat_cast (Z : List WordL) : Z.flatMap wvN = (castW Z).flatMap wv := by
  unfold castW
  rw [List.flatMap_map]
  rfl

set_option maxRecDepth 100000 in
set_option maxHeartbeats 4000000 in
/-- slices.Collect over the words of a list of strings. -/
theorem collect_any (ls : List (List UInt8)) (G : Nat) (A : Option Addr) (m c : Nat) (Bl Bg : Nat) (w00 w : World) (hS : Ready10 w00) (hk0 : Below w00.heap.size w00 w)
    (hA : Arr sv w w.heap.size (.slice A m c) ls) (hl : w.cell? ⟨Bl, 0, none⟩ = some (.slice A m c)) (hg : w.cell? ⟨Bg, 0, none⟩ = some (.int .i64 (G : Int)))
    (hG : G ≤ 1000) (hm : m ≤ 1000) (hs : ∀ s ∈ ls, s.length ≤ 5000) :
    Calls Tryd.prog 23 #[.func (.func 36) #[] #[.pointer (some ⟨Bl, 0, none⟩), .pointer (some ⟨Bg, 0, none⟩)]] w fun e w' => ∃ A n c, e = .returned (.slice A n c) ∧ SArr 2 wv w' w'.heap.size (.slice A n c) (castW (zoneP G ls)) ∧ Below w.heap.size w w' := by
  have hks := hk0.size
  have hBl : Bl < w.heap.size := by obtain ⟨o, h1, _⟩ := cell_blockT hl; exact (Array.getElem?_eq_some_iff.1 h1).1
  have hBg : Bg < w.heap.size := by obtain ⟨o, h1, _⟩ := cell_blockT hg; exact (Array.getElem?_eq_some_iff.1 h1).1
  have hlen : ls.length = m := hA.len
  have hzl := zone_len G ls hs
  have HA := Lib.hid (appendSeq_any 100 (by omega) 36 #[.pointer (some ⟨Bl, 0, none⟩), .pointer (some ⟨Bg, 0, none⟩)] (enters_of Tryd.func36 (by kernel_rfl) rfl) (zoneP G ls) (by have : ls.length * 240001 ≤ 1000 * 240001 := Nat.mul_le_mul (by omega) (by omega); omega) w (fun W hW => by
    have hb : Below w.heap.size w W := by rw [hW]; exact (Below.refl _ w).alloc (Nat.le_refl _) _
    have hA' : Arr sv W W.heap.size (.slice A m c) ls := hA.up hb
    exact each_seq 99 (by omega) ls G A m c w00.heap.size w.heap.size Bl Bg w00 W rfl hS (hk0.trans (hb.mono hks)) hks hA' (fun hm0 a ha e => by
      obtain ⟨b, o, h1, h2, _⟩ := hA.some_ hm0
      rw [ha] at h1
      cases h1
      exact absurd e (by show b ≠ w.heap.size; omega)) ((hb.cell (p := ⟨Bl, 0, none⟩) hBl).trans hl) ((hb.cell (p := ⟨Bg, 0, none⟩) hBg).trans hg) (by omega) (by omega) hG hm hs))
  refine (callsIn_wide (n := 101)).1 ?_
  refine callsIn_of_wp Tryd.func23 rfl trivial ?_ rfl
  simp only [Tryd.ntmps23, List.size_toArray, List.length_cons, List.length_nil, Nat.reduceAdd, Nat.reduceSub, Array.replicate_succ, Array.replicate_zero, List.push_toArray, List.append_toArray, List.nil_append, List.cons_append]
  have d1 : Fence.wide.fn 35 := trivial
  clear hA hl hg hS hk0
  gi_wp2_with fail
  refine HA.out.mono ?_
  rintro e w' ⟨v, rfl, hrow, hb⟩
  have hrow2 : w'.ownsRow (w.heap.size + 1) 46 2 v (castW (zoneP G ls)).length ((castW (zoneP G ls)).flatMap wv) := by rw [← flat_cast, castT_len']; exact hrow
  have hS := SArr.of_own wv_len hrow2
  obtain ⟨A2, c2, rfl⟩ := hS.form
  have HS := Lib.hid hS
  clear hrow hrow2 hS
  gi_wp2
  go_ret
  exact ⟨_, _, _, rfl, HS.out, hb⟩

/-! The program's Words, Zone. -/
set_option maxRecDepth 20000 in
set_option maxHeartbeats 3200000 in
theorem prWords_any (s : List UInt8) (w : World) (hS : Ready10 w) (hs : s.length ≤ 5000) :
    Calls Tryd.prog 9 #[.string (str s)] w fun e w' => ∃ A n c, e = .returned (.slice A n c) ∧ SArr 2 wv w' w'.heap.size (.slice A n c) (castW (wordsP s)) ∧ Below w.heap.size w w' := by
  have hz : zoneP 0 [s] = wordsP s := by
    rw [zone_zero]; unfold wordsP; simp
  rw [← hz]
  obtain ⟨w1, hw1⟩ : ∃ w1, w.alloc (.cells #[.string (str s)] 9) = w1 := ⟨_, rfl⟩
  have h1 : w1.heap.size = w.heap.size + 1 := by rw [← hw1]; simp
  have hA1 : Arr sv w1 w1.heap.size (.slice (some ⟨w.heap.size, 0, none⟩) 1 1) [s] := by rw [← hw1]; exact arr_made w 9 [s] 1 _ rfl rfl
  have b1 : Below w.heap.size w w1 := by rw [← hw1]; exact below_new (Below.refl _ _) _
  have HE := Lib.hid (each_any (some ⟨w.heap.size, 0, none⟩) 1 1 0 w1)
  have b2 : Below w1.heap.size w1 ((w1.alloc (.cells #[.slice (some ⟨w.heap.size, 0, none⟩) 1 1] 27)).alloc (.cells #[.int .i64 0] 3)) := below_new (below_new (Below.refl _ _) _) _
  have b3 : Below w.heap.size w _ := below_next b1 b2
  have c1 := (Boxed.new w1 27 (.slice (some ⟨w.heap.size, 0, none⟩) 1 1)).alloc (.cells #[.int .i64 0] 3)
  have c2 := Boxed.new (w1.alloc (.cells #[.slice (some ⟨w.heap.size, 0, none⟩) 1 1] 27)) 3 (.int .i64 0)
  rw [World.size_alloc] at c2
  have HC := Lib.hid (collect_any [s] 0 _ 1 1 w1.heap.size (w1.heap.size + 1) w _ hS b3 (hA1.up b2) c1.cell c2.cell (by omega) (by omega) (fun x hx => by rw [List.mem_singleton.1 hx]; exact hs))
  have HB := Lib.hid b3
  clear hA1 c1 c2 b1 b2 b3 hS hz h1
  go_enter Tryd.func9, Tryd.ntmps9
  go_wp2_with fail
  refine HE.out.mono ?_
  rintro e w2 ⟨rfl, rfl⟩
  go_wp2_with fail
  refine HC.out.mono ?_
  rintro e w3 ⟨A, n, c, rfl, hA, hb⟩
  have HA := Lib.hid hA
  clear hA
  go_wp2
  go_ret
  exact ⟨_, _, _, rfl, HA.out, below_next HB.out hb⟩

set_option maxRecDepth 20000 in
set_option maxHeartbeats 3200000 in
theorem prZone_any (A : Option Addr) (n c : Nat) (l : List (List UInt8)) (G : Nat) (w : World) (hS : Ready10 w) (hA : Arr sv w w.heap.size (.slice A n c) l) (hn : n ≤ 1000) (hs : ∀ s ∈ l, s.length ≤ 5000) (hG : G ≤ 1000) :
    Calls Tryd.prog 18 #[.slice A n c, .int .i64 (G : Int)] w fun e w' => ∃ A' n' c', e = .returned (.tuple #[.slice A' n' c', .int .i64 0]) ∧ SArr 2 wv w' w'.heap.size (.slice A' n' c') (castW (zoneP G l)) ∧ Below w.heap.size w w' := by
  have HE := Lib.hid (each_any A n c (G : Int) w)
  have b2 : Below w.heap.size w ((w.alloc (.cells #[.slice A n c] 27)).alloc (.cells #[.int .i64 (G : Int)] 3)) := below_new (below_new (Below.refl _ _) _) _
  have c1 := (Boxed.new w 27 (.slice A n c)).alloc (.cells #[.int .i64 (G : Int)] 3)
  have c2 := Boxed.new (w.alloc (.cells #[.slice A n c] 27)) 3 (.int .i64 (G : Int))
  rw [World.size_alloc] at c2
  have HC := Lib.hid (collect_any l G A n c w.heap.size (w.heap.size + 1) w _ hS b2 (hA.up b2) c1.cell c2.cell hG hn hs)
  have HB := Lib.hid b2
  have g1 : ¬ ((G : Int) < 0) := by omega
  have g2 : ¬ ((1000 : Int) < (G : Int)) := by omega
  have g3 : (G : Int) ≤ 1000 := by omega
  have g4 : (0 : Int) ≤ (G : Int) := by omega
  clear c1 c2 b2 hS hA
  go_enter Tryd.func18, Tryd.ntmps18
  go_wp2_with fail
  refine HE.out.mono ?_
  rintro e w2 ⟨rfl, rfl⟩
  go_wp2_with fail
  refine HC.out.mono ?_
  rintro e w3 ⟨A2, n2, c2, rfl, hA, hb⟩
  have HA := Lib.hid hA
  clear hA
  go_wp2
  go_ret2
  exact ⟨_, _, _, rfl, HA.out, below_next HB.out hb⟩

set_option maxRecDepth 20000 in
set_option maxHeartbeats 3200000 in
theorem prZoneBad_any (A : Option Addr) (n c : Nat) (g : Int) (w : World) (hg : g < 0 ∨ 1000 < g) :
    Calls Tryd.prog 18 #[.slice A n c, .int .i64 g] w fun e w' => ∃ A' c', e = .returned (.tuple #[.slice A' 0 c', .int .i64 2]) ∧ SArr 2 wv w' w'.heap.size (.slice A' 0 c') [] ∧ Below w.heap.size w w' := by
  rcases hg with hg | hg
  · go_enter Tryd.func18, Tryd.ntmps18
    go_wp2
    go_ret2
    exact ⟨_, _, rfl, SArr.nil_ _ _, Below.refl _ _⟩
  · have g1 : ¬ (g < 0) := by omega
    go_enter Tryd.func18, Tryd.ntmps18
    go_wp2
    go_ret2
    exact ⟨_, _, rfl, SArr.nil_ _ _, Below.refl _ _⟩

end Go.Proofs.YtbnchnbblchmnaaDoor
