/-
  What the document promises of articles: each article of a language.
  The reference's Languages, Articles.
-/
import Derived.Test.YtbnchnbblchmnaaGreatDoorPkAY
import Derived.Test.YtbnchnbblchmnaaGreatDoorPkAM
namespace Go.Proofs.YtbnchnbblchmnaaGreatDoor

def upB (b : UInt8) : UInt8 := if 97 ≤ b ∧ b ≤ 122 then b - 32 else b
/-- An article with its first letter a capital one. -/
def capB : List UInt8 → List UInt8
  | b :: t => if b < 128 then upB b :: t else b :: t
  | [] => []
theorem find_const {α β : Type} {f : α → Option β} {v : β} : ∀ {l : List α}, (∀ b ∈ l, f b = none ∨ f b = some v) → ∀ {a : α}, a ∈ l → f a = some v → l.findSome? f = some v
  | [], _, _, ha, _ => by cases ha
  | b :: l, h, a, ha, hv => by
    rw [List.findSome?_cons]
    rcases h b List.mem_cons_self with e | e
    · rw [e]
      rcases List.mem_cons.1 ha with rfl | ha
      · rw [hv] at e; cases e
      · exact find_const (fun c hc => h c (List.mem_cons_of_mem _ hc)) ha hv
    · rw [e]
/-- What the kernel finds of each article, of either writing. -/
def goodArt (all : List (List UInt8)) (a a' : List UInt8) : Bool :=
  (decR a').isSome && !(a'.contains 32) && (nFold a' == a) && (apoB a' == apoB a) &&
  (if apoB a = true then (a' == [108, 39] || a' == [76, 39]) && (all.all fun b => apoB b || !(b[1]? == some 39))
   else all.all fun b => !(apoB b) || !(nFold (cutR (a' ++ [32]) 2) == b) && Nat.ble 2 (nL (a' ++ [32])).length)
def goodAll (p : List UInt8 × List (List UInt8)) : Bool := (artsOf p.1 == p.2) && p.2.all fun a => goodArt p.2 a a && goodArt p.2 a (capB a)
theorem all_arts : ((langT.zip artT).all goodAll) = true := by decide +kernel
structure GoodArt (all : List (List UInt8)) (a a' : List UInt8) : Prop where
  dec : (decR a').isSome = true
  nsp : 32 ∉ a'
  fold : nFold a' = a
  apo : apoB a' = apoB a
  one : apoB a = true → (a' = [108, 39] ∨ a' = [76, 39]) ∧ ∀ b ∈ all, apoB b = true ∨ b[1]? ≠ some 39
  two : apoB a = false → ∀ b ∈ all, apoB b = true → nFold (cutR (a' ++ [32]) 2) ≠ b ∧ 2 ≤ (nL (a' ++ [32])).length
theorem good_art {lang : List UInt8} {all : List (List UInt8)} (hm : (lang, all) ∈ langT.zip artT) {a : List UInt8} (ha : a ∈ all) {a' : List UInt8} (hc : a' = a ∨ a' = capB a) : artsOf lang = all ∧ GoodArt all a a' := by
  have h1 := List.all_eq_true.1 all_arts _ hm
  unfold goodAll at h1
  simp only [Bool.and_eq_true, List.all_eq_true, beq_iff_eq] at h1
  refine ⟨h1.1, ?_⟩
  have h2 := h1.2 a ha
  have h3 : goodArt all a a' = true := by
    rcases hc with rfl | rfl
    · exact h2.1
    · exact h2.2
  unfold goodArt at h3
  simp only [Bool.and_eq_true, beq_iff_eq, Bool.not_eq_true'] at h3
  obtain ⟨⟨⟨⟨g1, g2⟩, g3⟩, g4⟩, g5⟩ := h3
  refine ⟨g1, fun hm => ?_, g3, g4, fun e => ?_, fun e b hb hbp => ?_⟩
  · rw [List.contains_iff_mem.2 hm] at g2; cases g2
  · rw [if_pos e, Bool.and_eq_true, List.all_eq_true] at g5
    refine ⟨by simpa using g5.1, fun b hb => ?_⟩
    have := g5.2 b hb
    simpa using this
  · rw [if_neg (by rw [e]; exact Bool.false_ne_true), List.all_eq_true] at g5
    have := g5 b hb
    rw [hbp] at this
    simp at this
    exact this
theorem word_rep {k : Nat} (hk : 0 < k) (u : List UInt8) : wordN (List.replicate k 32 ++ u) = 0 := by
  cases k with
  | zero => omega
  | succ k => rw [List.replicate_succ, List.cons_append, wordN, if_pos rfl]
theorem cut_two {p : List Nat} {t : List UInt8} {l : List Nat} (hp : ∀ c ∈ p, okC c) (h : decR (encL p ++ t) = some l) (h2 : 2 ≤ p.length) : cutR (encL p ++ t) 2 = encL (p.take 2) := by
  obtain ⟨m, rfl, _⟩ := enc_split hp h
  rw [cutR_some h (by decide)]
  congr 1
  show (p ++ m).take 2 = p.take 2
  rw [List.take_append_of_le_length h2]
theorem take_cut9 {p : List Nat} {t : List UInt8} : (encL p ++ t).take (encL (p.take 2)).length = encL (p.take 2) := by
  conv => lhs; rw [← List.take_append_drop 2 p, encL_app, List.append_assoc]
  have h : (p.take 2 ++ p.drop 2).take 2 = p.take 2 := by rw [List.take_append_drop]
  rw [h]
  exact List.take_left

theorem dc_apo {c : Nat} (hw : wholeR c = [c]) (q : List Nat) : ∃ z, dcF (c :: 39 :: q) = c :: 39 :: z := by
  have h39 : clM 39 = 0 ∧ wholeR 39 = [39] := by decide +kernel
  have h1 : ∃ z, dcF (39 :: q) = 39 :: z := by
    refine ⟨(sortB clM [] (q.flatMap wholeR)).reverse, ?_⟩
    unfold dcF
    rw [List.flatMap_cons, h39.2]
    exact sort_first h39.1 _
  obtain ⟨z, hz⟩ := h1
  have e : c :: 39 :: q = [c] ++ 39 :: q := rfl
  refine ⟨z, ?_⟩
  rw [e, dcF_join [c] (39 :: q) (fun d hd => by simp at hd; subst hd; exact h39.1), dcF_one, hw, hz]
  rfl
theorem fold_apo {c : Nat} (hc : c = 108 ∨ c = 76) {q : List Nat} (hq : ∀ x ∈ q, okC x) : (nFold (encL (c :: 39 :: q)))[1]? = some 39 := by
  have hf : (wholeR 108 = [108] ∧ low1 108 = [108]) ∧ (wholeR 76 = [76] ∧ low1 76 = [108]) ∧ low1 39 = [39] ∧ okC 108 ∧ okC 76 ∧ okC 39 := by
    refine ⟨by decide +kernel, by decide +kernel, by decide +kernel, ⟨by decide, by decide +kernel⟩, ⟨by decide, by decide +kernel⟩, ⟨by decide, by decide +kernel⟩⟩
  have hw : wholeR c = [c] ∧ low1 c = [108] ∧ okC c := by
    rcases hc with rfl | rfl
    · exact ⟨hf.1.1, hf.1.2, hf.2.2.2.1⟩
    · exact ⟨hf.2.1.1, hf.2.1.2, hf.2.2.2.2.1⟩
  have hok : ∀ x ∈ c :: 39 :: q, okC x := fun x hx => by
    rcases List.mem_cons.1 hx with rfl | hx
    · exact hw.2.2
    · rcases List.mem_cons.1 hx with rfl | hx
      · exact hf.2.2.2.2.2
      · exact hq x hx
  obtain ⟨z, hz⟩ := dc_apo hw.1 q
  rw [fold_enc hok, hz]
  unfold foldL
  rw [List.flatMap_cons, List.flatMap_cons, hw.2.1, hf.2.2.1]
  rfl
theorem dec_two {a t : List UInt8} (h1 : (decR a).isSome = true) (h2 : (decR t).isSome = true) : (decR (a ++ t)).isSome = true := by
  obtain ⟨l, hl⟩ := Option.isSome_iff_exists.1 h1
  obtain ⟨m, hm⟩ := Option.isSome_iff_exists.1 h2
  rw [dec_app hl, hm]
  rfl
theorem dec_rep (k : Nat) : (decR (List.replicate k 32)).isSome = true := by
  rw [← rep_enc, dec_enc _ fun c hc => by rw [(List.mem_replicate.1 hc).2]; exact ok_32]
  rfl
theorem begin_of {lang s : List UInt8} {all : List (List UInt8)} {v : Nat × Nat} (hl : artsOf lang = all) (hd : (decR s).isSome = true) (hv : all.findSome? (artHit s (wordN s) (cutR s 2).length) = some v) (h0 : v.2 ≠ 0) :
    stripN lang s = s.drop v.2 ∧ invN lang s = s.drop v.2 ++ [44, 32] ++ s.take v.1 := by
  have hb : beginN lang s = v := by
    unfold beginN hitsN
    rw [if_pos hd, hl, hv]
    rfl
  unfold stripN skipN invN
  rw [hb, if_neg h0]
  exact ⟨rfl, rfl⟩
theorem art_each1 {lang : List UInt8} {all : List (List UInt8)} (hm : (lang, all) ∈ langT.zip artT) {a : List UInt8} (ha : a ∈ all) {a' : List UInt8} (hc : a' = a ∨ a' = capB a) (hap : apoB a = false) {k : Nat} (hk : 0 < k) {r : List UInt8} (hr : (decR r).isSome = true) (h0 : r ≠ []) (h1 : r.head? ≠ some 32) :
    stripN lang (a' ++ (List.replicate k 32 ++ r)) = r ∧ invN lang (a' ++ (List.replicate k 32 ++ r)) = r ++ [44, 32] ++ a' := by
  obtain ⟨hl, G⟩ := good_art hm ha hc
  obtain ⟨S, hS⟩ : ∃ S, a' ++ (List.replicate k 32 ++ r) = S := ⟨_, rfl⟩
  have hd : (decR S).isSome = true := by rw [← hS]; exact dec_two G.dec (dec_two (dec_rep k) hr)
  have hw : wordN S = a'.length := by rw [← hS, word_app _ G.nsp, word_rep hk]; rfl
  have htk : S.take a'.length = a' := by rw [← hS]; exact List.take_left
  have hdr : S.drop a'.length = List.replicate k 32 ++ r := by rw [← hS]; exact List.drop_left
  have hsp : spN S a'.length = a'.length + k := by unfold spN; rw [hdr, blank_rep k h1]
  have hlen : spN S a'.length < S.length := by
    rw [hsp, ← hS, List.length_append, List.length_append, List.length_replicate]
    have := List.length_pos_iff.2 h0
    omega
  have hdrop : S.drop (a'.length + k) = r := by
    rw [← List.drop_drop, hdr]
    rw [List.drop_append_of_le_length (by rw [List.length_replicate]; exact Nat.le_refl _), List.drop_of_length_le (by rw [List.length_replicate]; exact Nat.le_refl _)]
    rfl
  have hnon : ∀ b, apoB b = false → artHit S (wordN S) (cutR S 2).length b = if a = b then some (a'.length, a'.length + k) else none := by
    intro b hb
    unfold artHit
    rw [if_neg (by rw [hb]; exact Bool.false_ne_true), hw, htk, G.fold]
    by_cases e : a = b
    · rw [if_pos ⟨e, hlen⟩, if_pos e, hsp]
    · rw [if_neg (fun h => e h.1), if_neg e]
  have hv : all.findSome? (artHit S (wordN S) (cutR S 2).length) = some (a'.length, a'.length + k) := by
    refine find_const (fun b hb => ?_) ha (by rw [hnon a hap, if_pos rfl])
    cases hbp : apoB b with
    | false =>
      rw [hnon b hbp]
      split
      · exact .inr rfl
      · exact .inl rfl
    | true =>
      left
      obtain ⟨g1, g2⟩ := G.two hap b hb hbp
      unfold artHit
      rw [if_pos hbp, if_neg]
      rintro ⟨h2, -⟩
      refine g1 ?_
      obtain ⟨p, hp⟩ := Option.isSome_iff_exists.1 (dec_two G.dec (show (decR [32]).isSome = true by exact dec_rep 1))
      obtain ⟨p1, p2⟩ := enc_dec hp
      have hnl : nL (a' ++ [32]) = p := by unfold nL; rw [hp]; rfl
      rw [hnl] at g2
      obtain ⟨j, rfl⟩ : ∃ j, k = j + 1 := ⟨k - 1, by omega⟩
      have hSe : S = encL p ++ (List.replicate j 32 ++ r) := by rw [← hS, p1, List.replicate_succ]; simp
      obtain ⟨l, hls⟩ := Option.isSome_iff_exists.1 hd
      rw [hSe] at hls h2
      rw [cut_two p2 hls g2, take_cut9] at h2
      have hc2 : cutR (a' ++ [32]) 2 = encL (p.take 2) := cutR_some hp (by decide)
      rw [hc2]
      exact h2
  have hb := begin_of hl hd hv (by show a'.length + k ≠ 0; omega)
  simp only at hb
  rw [hdrop, htk] at hb
  rw [hS]
  exact hb
theorem art_each2 {lang : List UInt8} {all : List (List UInt8)} (hm : (lang, all) ∈ langT.zip artT) {a : List UInt8} (ha : a ∈ all) {a' : List UInt8} (hc : a' = a ∨ a' = capB a) (hap : apoB a = true) {r : List UInt8} (hr : (decR r).isSome = true) (h0 : r ≠ []) (h1 : r.head? ≠ some 32) :
    stripN lang (a' ++ r) = r ∧ invN lang (a' ++ r) = r ++ [44, 32] ++ a' := by
  obtain ⟨hl, G⟩ := good_art hm ha hc
  obtain ⟨hone, hall⟩ := G.one hap
  obtain ⟨lr, hlr⟩ := Option.isSome_iff_exists.1 hr
  obtain ⟨r1, r2⟩ := enc_dec hlr
  obtain ⟨c, hcc, hae⟩ : ∃ c, (c = 108 ∨ c = 76) ∧ a' = encL [c, 39] := by
    rcases hone with e | e
    · exact ⟨108, .inl rfl, by rw [e]; decide⟩
    · exact ⟨76, .inr rfl, by rw [e]; decide⟩
  have hoc : ∀ x ∈ [c, 39], okC x := by
    have hf : okC 108 ∧ okC 76 ∧ okC 39 := ⟨⟨by decide, by decide +kernel⟩, ⟨by decide, by decide +kernel⟩, ⟨by decide, by decide +kernel⟩⟩
    intro x hx
    simp only [List.mem_cons, List.not_mem_nil, or_false] at hx
    rcases hx with rfl | rfl
    · rcases hcc with rfl | rfl
      · exact hf.1
      · exact hf.2.1
    · exact hf.2.2
  have hal : a'.length = 2 := by rcases hone with e | e <;> rw [e] <;> rfl
  obtain ⟨S, hS⟩ : ∃ S, a' ++ r = S := ⟨_, rfl⟩
  have hd : (decR S).isSome = true := by rw [← hS]; exact dec_two G.dec hr
  have htk : S.take 2 = a' := by rw [← hS, ← hal]; exact List.take_left
  have hdr : S.drop 2 = r := by rw [← hS, ← hal]; exact List.drop_left
  have hlen : 2 < S.length := by
    rw [← hS, List.length_append, hal]
    have := List.length_pos_iff.2 h0
    omega
  have hat : S[2]? ≠ some 32 := by
    intro e
    refine h1 ?_
    rw [← hdr, List.head?_eq_getElem?, List.getElem?_drop]
    exact e
  have hcut : (cutR S 2).length = 2 := by
    obtain ⟨l, hls⟩ := Option.isSome_iff_exists.1 hd
    rw [← hS, hae] at hls
    rw [← hS, hae, cut_two hoc hls (by simp)]
    rw [show [c, 39].take 2 = [c, 39] from rfl, ← hae, hal]
  have hv : all.findSome? (artHit S (wordN S) (cutR S 2).length) = some (2, 2) := by
    have hapo : ∀ b, apoB b = true → artHit S (wordN S) (cutR S 2).length b = if a = b then some (2, 2) else none := by
      intro b hb
      unfold artHit
      rw [if_pos hb, hcut, htk, G.fold]
      by_cases e : a = b
      · rw [if_pos ⟨e, hlen, hat⟩, if_pos e]
      · rw [if_neg (fun h => e h.1), if_neg e]
    refine find_const (fun b hb => ?_) ha (by rw [hapo a hap, if_pos rfl])
    cases hbp : apoB b with
    | true =>
      rw [hapo b hbp]
      split
      · exact .inr rfl
      · exact .inl rfl
    | false =>
      left
      have hb1 : b[1]? ≠ some 39 := by
        rcases hall b hb with e | e
        · rw [hbp] at e; cases e
        · exact e
      unfold artHit
      rw [if_neg (by rw [hbp]; exact Bool.false_ne_true), if_neg]
      rintro ⟨h2, -⟩
      refine hb1 ?_
      obtain ⟨q, u, q1, q2, q3⟩ := word_enc lr r2
      rw [r1] at q3
      have hw : S.take (wordN S) = encL (c :: 39 :: q) := by
        rw [← hS, word_app _ G.nsp, List.take_append, List.take_of_length_le (by omega), Nat.add_sub_cancel_left, q3, hae, ← encL_app]
        rfl
      rw [hw] at h2
      rw [← h2]
      exact fold_apo hcc fun x hx => r2 x (by rw [q1]; exact List.mem_append_left _ hx)
  have hb := begin_of hl hd hv (by decide)
  simp only at hb
  rw [hdr, htk] at hb
  rw [hS]
  exact hb

end Go.Proofs.YtbnchnbblchmnaaGreatDoor

namespace Go.Proofs.YtbnchnbblchmnaaGreatDoor
open Go.RowKit

theorem strl_beq (a b : List UInt8) : ((str a).toList == b) = decide (a = b) := by
  have h := strs_beq a b
  rwa [str_toList b] at h
theorem arr_made (w : World) (T : TypeId) (L : List (List UInt8)) (n : Nat) (cs : Array Value) (hn : L.length = n) (h : cs = (L.map sv).toArray) :
    Arr sv (w.alloc (.cells cs T)) (w.alloc (.cells cs T)).heap.size (.slice (some ⟨w.heap.size, 0, none⟩) n n) L := by
  subst h
  have hx : Arr sv (w.alloc (.cells (L.map sv).toArray T)) (w.heap.size + 1) (.slice (some ⟨w.heap.size, 0, none⟩) n n) L := Arr.of_box (Box.made w T (L.map sv).toArray) hn (Nat.le_refl _) (fun i u hu => by simp [hu])
  exact hx.more (by simp)

set_option maxRecDepth 20000 in
set_option maxHeartbeats 3200000 in
theorem refLanguages_any (w : World) : Calls Tryz.prog 16 #[] w fun e w' => ∃ A, e = .returned (.slice A 10 10) ∧ Arr sv w' w'.heap.size (.slice A 10 10) langT ∧ Below w.heap.size w w' := by
  go_enter Tryz.func16, Tryz.ntmps16
  go_wp2
  go_ret
  exact ⟨_, rfl, arr_made w _ langT 10 _ rfl (by kernel_rfl), (Below.refl _ _).alloc (Nat.le_refl _) _⟩

theorem arts_none {lang : List UInt8} (h0 : lang ≠ [100, 97, 110]) (h1 : lang ≠ [100, 117, 116]) (h2 : lang ≠ [101, 110, 103]) (h3 : lang ≠ [102, 114, 101]) (h4 : lang ≠ [103, 101, 114]) (h5 : lang ≠ [103, 114, 101]) (h6 : lang ≠ [105, 116, 97]) (h7 : lang ≠ [112, 111, 114]) (h8 : lang ≠ [115, 112, 97]) (h9 : lang ≠ [115, 119, 101]) : artsOf lang = [] := by
  have hb : ∀ {x y : List UInt8}, y ≠ x → (x == y) = false := fun h => by simpa using fun e => h e.symm
  unfold artsOf langT artT
  simp only [List.zip_cons_cons, List.zip_nil_right, List.find?_cons, List.find?_nil]
  rw [hb h0]
  rw [hb h1]
  rw [hb h2]
  rw [hb h3]
  rw [hb h4]
  rw [hb h5]
  rw [hb h6]
  rw [hb h7]
  rw [hb h8]
  rw [hb h9]
  rfl

set_option maxRecDepth 20000 in
set_option maxHeartbeats 6400000 in
theorem refArticles_any (lang : List UInt8) (w : World) : Calls Tryz.prog 17 #[.string (str lang)] w fun e w' => ∃ A n c, e = .returned (.slice A n c) ∧ Arr sv w' w'.heap.size (.slice A n c) (artsOf lang) ∧ Below w.heap.size w w' := by
  by_cases h0 : lang = [100, 97, 110]
  · have q0 : ((str lang).toList == [100, 97, 110]) = true := (strl_beq lang [100, 97, 110]).trans (decide_eq_true h0)
    have hE : artsOf lang = [[101, 110], [101, 116], [100, 101, 110], [100, 101, 116]] := by rw [h0]; kernel_rfl
    rw [hE]
    clear hE h0
    go_enter Tryz.func17, Tryz.ntmps17
    go_wp2
    go_ret
    exact ⟨_, _, _, rfl, arr_made w _ [[101, 110], [101, 116], [100, 101, 110], [100, 101, 116]] 4 _ rfl (by kernel_rfl), (Below.refl _ _).alloc (Nat.le_refl _) _⟩
  have q0 : ((str lang).toList == [100, 97, 110]) = false := (strl_beq lang [100, 97, 110]).trans (decide_eq_false h0)
  by_cases h1 : lang = [100, 117, 116]
  · have q1 : ((str lang).toList == [100, 117, 116]) = true := (strl_beq lang [100, 117, 116]).trans (decide_eq_true h1)
    have hE : artsOf lang = [[100, 101], [104, 101, 116], [101, 101, 110], [39, 116]] := by rw [h1]; kernel_rfl
    rw [hE]
    clear hE h0 h1
    go_enter Tryz.func17, Tryz.ntmps17
    go_wp2
    go_ret
    exact ⟨_, _, _, rfl, arr_made w _ [[100, 101], [104, 101, 116], [101, 101, 110], [39, 116]] 4 _ rfl (by kernel_rfl), (Below.refl _ _).alloc (Nat.le_refl _) _⟩
  have q1 : ((str lang).toList == [100, 117, 116]) = false := (strl_beq lang [100, 117, 116]).trans (decide_eq_false h1)
  by_cases h2 : lang = [101, 110, 103]
  · have q2 : ((str lang).toList == [101, 110, 103]) = true := (strl_beq lang [101, 110, 103]).trans (decide_eq_true h2)
    have hE : artsOf lang = [[116, 104, 101], [97], [97, 110]] := by rw [h2]; kernel_rfl
    rw [hE]
    clear hE h0 h1 h2
    go_enter Tryz.func17, Tryz.ntmps17
    go_wp2
    go_ret
    exact ⟨_, _, _, rfl, arr_made w _ [[116, 104, 101], [97], [97, 110]] 3 _ rfl (by kernel_rfl), (Below.refl _ _).alloc (Nat.le_refl _) _⟩
  have q2 : ((str lang).toList == [101, 110, 103]) = false := (strl_beq lang [101, 110, 103]).trans (decide_eq_false h2)
  by_cases h3 : lang = [102, 114, 101]
  · have q3 : ((str lang).toList == [102, 114, 101]) = true := (strl_beq lang [102, 114, 101]).trans (decide_eq_true h3)
    have hE : artsOf lang = [[108, 101], [108, 97], [108, 101, 115], [108, 39], [117, 110], [117, 110, 101], [100, 101, 115]] := by rw [h3]; kernel_rfl
    rw [hE]
    clear hE h0 h1 h2 h3
    go_enter Tryz.func17, Tryz.ntmps17
    go_wp2
    go_ret
    exact ⟨_, _, _, rfl, arr_made w _ [[108, 101], [108, 97], [108, 101, 115], [108, 39], [117, 110], [117, 110, 101], [100, 101, 115]] 7 _ rfl (by kernel_rfl), (Below.refl _ _).alloc (Nat.le_refl _) _⟩
  have q3 : ((str lang).toList == [102, 114, 101]) = false := (strl_beq lang [102, 114, 101]).trans (decide_eq_false h3)
  by_cases h4 : lang = [103, 101, 114]
  · have q4 : ((str lang).toList == [103, 101, 114]) = true := (strl_beq lang [103, 101, 114]).trans (decide_eq_true h4)
    have hE : artsOf lang = [[100, 101, 114], [100, 105, 101], [100, 97, 115], [101, 105, 110], [101, 105, 110, 101]] := by rw [h4]; kernel_rfl
    rw [hE]
    clear hE h0 h1 h2 h3 h4
    go_enter Tryz.func17, Tryz.ntmps17
    go_wp2
    go_ret
    exact ⟨_, _, _, rfl, arr_made w _ [[100, 101, 114], [100, 105, 101], [100, 97, 115], [101, 105, 110], [101, 105, 110, 101]] 5 _ rfl (by kernel_rfl), (Below.refl _ _).alloc (Nat.le_refl _) _⟩
  have q4 : ((str lang).toList == [103, 101, 114]) = false := (strl_beq lang [103, 101, 114]).trans (decide_eq_false h4)
  by_cases h5 : lang = [103, 114, 101]
  · have q5 : ((str lang).toList == [103, 114, 101]) = true := (strl_beq lang [103, 114, 101]).trans (decide_eq_true h5)
    have hE : artsOf lang = [[206, 191], [206, 183], [207, 132, 206, 191], [206, 191, 206, 185], [207, 132, 206, 177]] := by rw [h5]; kernel_rfl
    rw [hE]
    clear hE h0 h1 h2 h3 h4 h5
    go_enter Tryz.func17, Tryz.ntmps17
    go_wp2
    go_ret
    exact ⟨_, _, _, rfl, arr_made w _ [[206, 191], [206, 183], [207, 132, 206, 191], [206, 191, 206, 185], [207, 132, 206, 177]] 5 _ rfl (by kernel_rfl), (Below.refl _ _).alloc (Nat.le_refl _) _⟩
  have q5 : ((str lang).toList == [103, 114, 101]) = false := (strl_beq lang [103, 114, 101]).trans (decide_eq_false h5)
  by_cases h6 : lang = [105, 116, 97]
  · have q6 : ((str lang).toList == [105, 116, 97]) = true := (strl_beq lang [105, 116, 97]).trans (decide_eq_true h6)
    have hE : artsOf lang = [[105, 108], [108, 111], [108, 97], [105], [103, 108, 105], [108, 101], [108, 39], [117, 110], [117, 110, 111], [117, 110, 97]] := by rw [h6]; kernel_rfl
    rw [hE]
    clear hE h0 h1 h2 h3 h4 h5 h6
    go_enter Tryz.func17, Tryz.ntmps17
    go_wp2
    go_ret
    exact ⟨_, _, _, rfl, arr_made w _ [[105, 108], [108, 111], [108, 97], [105], [103, 108, 105], [108, 101], [108, 39], [117, 110], [117, 110, 111], [117, 110, 97]] 10 _ rfl (by kernel_rfl), (Below.refl _ _).alloc (Nat.le_refl _) _⟩
  have q6 : ((str lang).toList == [105, 116, 97]) = false := (strl_beq lang [105, 116, 97]).trans (decide_eq_false h6)
  by_cases h7 : lang = [112, 111, 114]
  · have q7 : ((str lang).toList == [112, 111, 114]) = true := (strl_beq lang [112, 111, 114]).trans (decide_eq_true h7)
    have hE : artsOf lang = [[111], [97], [111, 115], [97, 115], [117, 109], [117, 109, 97]] := by rw [h7]; kernel_rfl
    rw [hE]
    clear hE h0 h1 h2 h3 h4 h5 h6 h7
    go_enter Tryz.func17, Tryz.ntmps17
    go_wp2
    go_ret
    exact ⟨_, _, _, rfl, arr_made w _ [[111], [97], [111, 115], [97, 115], [117, 109], [117, 109, 97]] 6 _ rfl (by kernel_rfl), (Below.refl _ _).alloc (Nat.le_refl _) _⟩
  have q7 : ((str lang).toList == [112, 111, 114]) = false := (strl_beq lang [112, 111, 114]).trans (decide_eq_false h7)
  by_cases h8 : lang = [115, 112, 97]
  · have q8 : ((str lang).toList == [115, 112, 97]) = true := (strl_beq lang [115, 112, 97]).trans (decide_eq_true h8)
    have hE : artsOf lang = [[101, 108], [108, 97], [108, 111, 115], [108, 97, 115], [117, 110], [117, 110, 97]] := by rw [h8]; kernel_rfl
    rw [hE]
    clear hE h0 h1 h2 h3 h4 h5 h6 h7 h8
    go_enter Tryz.func17, Tryz.ntmps17
    go_wp2
    go_ret
    exact ⟨_, _, _, rfl, arr_made w _ [[101, 108], [108, 97], [108, 111, 115], [108, 97, 115], [117, 110], [117, 110, 97]] 6 _ rfl (by kernel_rfl), (Below.refl _ _).alloc (Nat.le_refl _) _⟩
  have q8 : ((str lang).toList == [115, 112, 97]) = false := (strl_beq lang [115, 112, 97]).trans (decide_eq_false h8)
  by_cases h9 : lang = [115, 119, 101]
  · have q9 : ((str lang).toList == [115, 119, 101]) = true := (strl_beq lang [115, 119, 101]).trans (decide_eq_true h9)
    have hE : artsOf lang = [[101, 110], [101, 116, 116], [100, 101, 110], [100, 101, 116]] := by rw [h9]; kernel_rfl
    rw [hE]
    clear hE h0 h1 h2 h3 h4 h5 h6 h7 h8 h9
    go_enter Tryz.func17, Tryz.ntmps17
    go_wp2
    go_ret
    exact ⟨_, _, _, rfl, arr_made w _ [[101, 110], [101, 116, 116], [100, 101, 110], [100, 101, 116]] 4 _ rfl (by kernel_rfl), (Below.refl _ _).alloc (Nat.le_refl _) _⟩
  have q9 : ((str lang).toList == [115, 119, 101]) = false := (strl_beq lang [115, 119, 101]).trans (decide_eq_false h9)
  rw [arts_none h0 h1 h2 h3 h4 h5 h6 h7 h8 h9]
  clear h0 h1 h2 h3 h4 h5 h6 h7 h8 h9
  go_enter Tryz.func17, Tryz.ntmps17
  go_wp2
  go_ret
  exact ⟨_, _, _, rfl, .inl ⟨rfl, rfl⟩, Below.refl _ _⟩

end Go.Proofs.YtbnchnbblchmnaaGreatDoor
