/-
  What the document promises of transliteration, in plain mathematics.
  The two tables, and letters of the Cyrillic one, in plain mathematics.
  Words for strings, over any program: beginnings, rests, comparing.
  Words for slices of structs, over any program and any numbering: such a slice as a list, rows of the call's own, append.
-/
import Derived.Test.YtomkipddbmnipaaDoorPkAF
import Derived.Test.YtomkipddbmnipaaDoorPkAB
import Derived.Test.YtomkipddbmnipaaDoorWords
namespace Go.Proofs.YtomkipddbmnipaaDoor

/-- No two rules have the same From. -/
def distB : List RuleL → Bool
  | [] => true
  | x :: t => (t.all fun y => decide (y.1 ≠ x.1)) && distB t
def validL (t : List RuleL) : Bool := (t.all fun x => sideB x.1 && sideB x.2) && distB t && decide (1 ≤ t.length) && decide (t.length ≤ 80)
structure ValidL (t : List RuleL) : Prop where
  sides : ∀ x ∈ t, sideB x.1 = true ∧ sideB x.2 = true
  dist : distB t = true
  some : 1 ≤ t.length
  few : t.length ≤ 80
theorem valid_of {t : List RuleL} (h : validL t = true) : ValidL t := by
  unfold validL at h
  simp only [Bool.and_eq_true, decide_eq_true_eq, List.all_eq_true] at h
  exact ⟨h.1.1.1, h.1.1.2, h.1.2, h.2⟩
theorem good_of {t : List RuleL} (h : ValidL t) : Good t := fun x hx => (h.sides x hx).1
def revL (t : List RuleL) : List RuleL := t.map fun x => (x.2, x.1)
theorem good_rev {t : List RuleL} (h : ValidL t) : Good (revL t) := fun x hx => by
  obtain ⟨y, hy, rfl⟩ := List.mem_map.1 hx
  exact (h.sides y hy).2
theorem dist_of : ∀ {t : List RuleL}, distB t = true → ∀ (i j : Nat) (x y : RuleL), t[i]? = some x → t[j]? = some y → x.1 = y.1 → i = j
  | [], _, i, _, _, _, h, _, _ => by simp at h
  | z :: t, h, i, j, x, y, hi, hj, hxy => by
    rw [distB, Bool.and_eq_true, List.all_eq_true] at h
    have hne : ∀ y ∈ t, y.1 ≠ z.1 := fun y hy => of_decide_eq_true (h.1 y hy)
    cases i with
    | zero =>
      simp at hi
      subst hi
      cases j with
      | zero => rfl
      | succ j =>
        rw [List.getElem?_cons_succ] at hj
        exact absurd hxy.symm (hne y (List.mem_of_getElem? hj))
    | succ i =>
      rw [List.getElem?_cons_succ] at hi
      cases j with
      | zero =>
        simp at hj
        subst hj
        exact absurd hxy (hne x (List.mem_of_getElem? hi))
      | succ j =>
        rw [List.getElem?_cons_succ] at hj
        rw [dist_of h.2 i j x y hi hj hxy]
theorem dist_same {t : List RuleL} (h : distB t = true) {x y : RuleL} (hx : x ∈ t) (hy : y ∈ t) (hxy : x.1 = y.1) : x = y := by
  obtain ⟨i, hi⟩ := List.getElem?_of_mem hx
  obtain ⟨j, hj⟩ := List.getElem?_of_mem hy
  obtain rfl := dist_of h i j x y hi hj hxy
  rw [hi] at hj
  exact Option.some.inj hj

/-! Whole strings. -/
def toL (t : List RuleL) (s : List UInt8) : List UInt8 := if validL t = true ∧ (decR s).isSome = true then (runL t s).1 else []
def backL (t : List RuleL) (s : List UInt8) : List UInt8 := if validL t = true ∧ (decR s).isSome = true then (runL (revL t) s).1 else []
def coversL (t : List RuleL) (s : List UInt8) : Bool := validL t && (decR s).isSome && decide ((runL t s).2 = 0)
/-- No To is the beginning of another rule's. -/
def freeB (t : List RuleL) : Prop := ∀ (i k : Nat) (x y : RuleL), t[i]? = some x → t[k]? = some y → i ≠ k → begB y.2 x.2 = false
/-- What is written is encoded. -/
theorem run_enc {t : List RuleL} (hg : Good t) (hs2 : ∀ x ∈ t, sideB x.2 = true) : ∀ (n : Nat) (s : List UInt8) (l : List Nat), s.length ≤ n → decR s = some l → ∃ m, decR (runL t s).1 = some m
  | n, s, l, hn, hd => by
    by_cases h0 : s = []
    · subst h0
      rw [run_nil]
      exact ⟨[], rfl⟩
    · have hl : 0 < s.length := List.length_pos_iff.2 h0
      obtain ⟨n, rfl⟩ : ∃ k, n = k + 1 := ⟨n - 1, by omega⟩
      cases hb : bestL t s with
      | none =>
        obtain ⟨c, m, hlm, hc, hcut, hs, hm, hmo⟩ := cut1_some hd h0
        have hdr := drop_cut hcut hs
        have hlen := len_enc hs
        have hcl := (encC_len c).1
        obtain ⟨k, hk⟩ := run_enc hg hs2 n (encL m) m (by omega) hm
        rw [run_none hg hd h0 hb, hdr, hcut]
        exact ⟨c :: k, by show decR (encC c ++ _) = _; rw [dec_cons hc, hk]; rfl⟩
      | some x =>
        obtain ⟨hx, hbx⟩ := best_mem hb
        obtain ⟨k, hk, _, _, _, _⟩ := side_enc (hg x hx)
        obtain ⟨m, hm, _⟩ := enc_rest hd hk hbx
        obtain ⟨q, hq, _, _, _, _⟩ := side_enc (hs2 x hx)
        have hxl : 0 < x.1.length := List.length_pos_iff.2 (side_ne (hg x hx))
        obtain ⟨r, hr⟩ := run_enc hg hs2 n (s.drop x.1.length) m (by rw [List.length_drop]; omega) hm
        rw [run_some hg hd h0 hb]
        exact ⟨q ++ r, by show decR (x.2 ++ _) = _; rw [dec_app hq, hr]; rfl⟩
/-- There and back. -/
theorem run_back {t : List RuleL} (hv : ValidL t) (hf : freeB t) : ∀ (n : Nat) (s : List UInt8) (l : List Nat), s.length ≤ n → decR s = some l → (runL t s).2 = 0 → runL (revL t) (runL t s).1 = (s, 0)
  | n, s, l, hn, hd, h2 => by
    have hg := good_of hv
    have hgr := good_rev hv
    by_cases h0 : s = []
    · subst h0
      rw [run_nil]
      exact run_nil _
    · have hl : 0 < s.length := List.length_pos_iff.2 h0
      obtain ⟨n, rfl⟩ : ∃ k, n = k + 1 := ⟨n - 1, by omega⟩
      cases hb : bestL t s with
      | none => rw [run_none hg hd h0 hb] at h2; exact absurd h2 (Nat.succ_ne_zero _)
      | some x =>
        obtain ⟨hx, hbx⟩ := best_mem hb
        obtain ⟨k, hk, _, _, _, _⟩ := side_enc (hg x hx)
        obtain ⟨m, hm, _⟩ := enc_rest hd hk hbx
        have hxl : 0 < x.1.length := List.length_pos_iff.2 (side_ne (hg x hx))
        have e := run_some hg hd h0 hb
        have h2' : (runL t (s.drop x.1.length)).2 = 0 := by rw [e] at h2; exact h2
        have ih := run_back hv hf n (s.drop x.1.length) m (by rw [List.length_drop]; omega) hm h2'
        obtain ⟨q, hq⟩ := run_enc hg (fun x hx => (hv.sides x hx).2) (s.length + 1) s l (by omega) hd
        have hs1 : (runL t s).1 = x.2 ++ (runL t (s.drop x.1.length)).1 := by rw [e]
        have hne : (runL t s).1 ≠ [] := by
          rw [hs1]
          intro h
          exact side_ne (hv.sides x hx).2 (List.append_eq_nil_iff.1 h).1
        have hbr : bestL (revL t) (runL t s).1 = some (x.2, x.1) := by
          obtain ⟨i, hi⟩ := List.getElem?_of_mem hx
          refine best_only (List.mem_map.2 ⟨x, hx, rfl⟩) (by rw [hs1]; exact beg_app _ _) fun y hy hby => ?_
          obtain ⟨z, hz, rfl⟩ := List.mem_map.1 hy
          obtain ⟨j, hj⟩ := List.getElem?_of_mem hz
          left
          have hbx2 : begB (runL t s).1 x.2 = true := by rw [hs1]; exact beg_app _ _
          by_cases hij : i = j
          · subst hij
            rw [hi] at hj
            rw [Option.some.inj hj]
          · rcases Nat.le_total x.2.length z.2.length with hle | hle
            · have := beg_two hbx2 hby hle
              rw [hf i j x z hi hj hij] at this
              cases this
            · have := beg_two hby hbx2 hle
              rw [hf j i z x hj hi (fun e => hij e.symm)] at this
              cases this
        rw [run_some hgr hq hne hbr]
        have hdr : (runL t s).1.drop x.2.length = (runL t (s.drop x.1.length)).1 := by rw [hs1]; exact List.drop_left
        simp only [hdr, ih]
        rw [← beg_drop hbx]

/-! Single characters. -/
theorem enc_beg {c d : Nat} (hc : okC c) (hd : okC d) {r : List UInt8} (h : begB (encC c ++ r) (encC d) = true) : c = d := by
  obtain ⟨q, hq⟩ := beg_iff.1 h
  have h1 := atR_enc hc.1 r
  rw [hq, atR_enc hd.1 q] at h1
  exact (congrArg Prod.fst h1).symm
/-- Each From is a single character. -/
def Singles (t : List RuleL) : Prop := ∀ x ∈ t, ∃ c, okC c ∧ x.1 = encC c
theorem good_single {t : List RuleL} (h : Singles t) : Good t := fun x hx => by
  obtain ⟨c, hc, e⟩ := h x hx
  have : decR (encC c) = some [c] := by
    have := dec_cons (t := []) hc
    rw [List.append_nil, decR_nil] at this
    exact this
  unfold sideB
  rw [e, this]
  rfl
theorem best_single {t : List RuleL} (h : Singles t) {c : Nat} (hc : okC c) (a b : List UInt8) : bestL t (encC c ++ a) = bestL t (encC c ++ b) := by
  have key : ∀ r, ∀ x ∈ t, begB (encC c ++ r) x.1 = decide (x.1 = encC c) := by
    intro r x hx
    obtain ⟨d, hd, e⟩ := h x hx
    rw [e]
    by_cases he : encC d = encC c
    · rw [he, beg_app, decide_eq_true rfl]
    · rw [decide_eq_false he]
      cases hb : begB (encC c ++ r) (encC d) with
      | false => rfl
      | true => exact absurd (by rw [enc_beg hc hd hb]) he
  have hbet : ∀ (l : List RuleL), (∀ x ∈ l, x ∈ t) → ∀ o, l.foldl (better (encC c ++ a)) o = l.foldl (better (encC c ++ b)) o := by
    intro l
    induction l with
    | nil => intro _ _; rfl
    | cons x l ih =>
      intro hl o
      rw [List.foldl_cons, List.foldl_cons]
      have hx := hl x (by simp)
      have e : better (encC c ++ a) o x = better (encC c ++ b) o x := by unfold better; rw [key a x hx, key b x hx]
      rw [e]
      exact ih (fun y hy => hl y (by simp [hy])) _
  exact hbet t (fun _ h => h) none
/-- Two strings together, one by one. -/
theorem run_join {t : List RuleL} (h : Singles t) {b : List UInt8} {lb : List Nat} (hb : decR b = some lb) : ∀ (l : List Nat), (∀ c ∈ l, okC c) → runL t (encL l ++ b) = ((runL t (encL l)).1 ++ (runL t b).1, (runL t (encL l)).2 + (runL t b).2)
  | [], _ => by
    show runL t ([] ++ b) = ((runL t []).1 ++ _, (runL t []).2 + _)
    rw [run_nil, List.nil_append]
    simp
  | c :: l, hl => by
    have hg := good_single h
    have hc := hl c (by simp)
    have hlo : ∀ x ∈ l, okC x := fun x hx => hl x (by simp [hx])
    have ih := run_join h hb l hlo
    have e0 : encL (c :: l) = encC c ++ encL l := rfl
    have hd1 : decR (encL (c :: l)) = some (c :: l) := dec_enc _ hl
    have hd2 : decR (encL (c :: l) ++ b) = some (c :: l ++ lb) := by rw [dec_enc_app _ hl, hb]; rfl
    have hn1 : encL (c :: l) ≠ [] := by rw [e0]; intro e; exact encC_ne c (List.append_eq_nil_iff.1 e).1
    have hn2 : encL (c :: l) ++ b ≠ [] := by intro e; exact hn1 (List.append_eq_nil_iff.1 e).1
    have hbest : bestL t (encL (c :: l) ++ b) = bestL t (encL (c :: l)) := by
      rw [e0, List.append_assoc]
      exact best_single h hc _ _
    have hcut1 : cut1 (encL (c :: l)) = encC c := cut1_enc hc.1 _
    have hcut2 : cut1 (encL (c :: l) ++ b) = encC c := by rw [e0, List.append_assoc]; exact cut1_enc hc.1 _
    have hdr1 : (encL (c :: l)).drop (encC c).length = encL l := by rw [e0]; exact List.drop_left
    have hdr2 : (encL (c :: l) ++ b).drop (encC c).length = encL l ++ b := by rw [e0, List.append_assoc]; exact List.drop_left
    cases hbo : bestL t (encL (c :: l)) with
    | none =>
      rw [run_none hg hd2 hn2 (by rw [hbest, hbo]), run_none hg hd1 hn1 hbo, hcut1, hcut2, hdr1, hdr2, ih]
      simp only [List.append_assoc, Prod.mk.injEq, true_and]
      omega
    | some x =>
      obtain ⟨hx, hbx⟩ := best_mem hbo
      obtain ⟨d, hd, e⟩ := h x hx
      have hdc : encC d = encC c := by
        rw [e, e0] at hbx
        rw [enc_beg hc hd hbx]
      rw [run_some hg hd2 hn2 (by rw [hbest, hbo]), run_some hg hd1 hn1 hbo, e, hdc, hdr1, hdr2, ih]
      simp only [List.append_assoc]

/-! Strings that stay. -/
theorem beg_chars {s p : List UInt8} {c d : Nat} {m k : List Nat} (hs : decR s = some (c :: m)) (hp : decR p = some (d :: k)) (hb : begB s p = true) : c = d := by
  obtain ⟨r, _, h⟩ := enc_rest hs hp hb
  simp at h
  exact h.1
theorem run_stays {t : List RuleL} (hg : Good t) : ∀ (l : List Nat), (∀ c ∈ l, okC c) → (∀ x ∈ t, ∀ m, decR x.1 = some m → ∀ c ∈ m, ∀ d ∈ l, c ≠ d) → runL t (encL l) = (encL l, l.length)
  | [], _, _ => run_nil t
  | c :: l, hl, hno => by
    have hc := hl c (by simp)
    have hlo : ∀ x ∈ l, okC x := fun x hx => hl x (by simp [hx])
    have ih := run_stays hg l hlo fun x hx m hm a ha d hd => hno x hx m hm a ha d (by simp [hd])
    have e0 : encL (c :: l) = encC c ++ encL l := rfl
    have hd1 : decR (encL (c :: l)) = some (c :: l) := dec_enc _ hl
    have hn1 : encL (c :: l) ≠ [] := by rw [e0]; intro e; exact encC_ne c (List.append_eq_nil_iff.1 e).1
    have hcut1 : cut1 (encL (c :: l)) = encC c := cut1_enc hc.1 _
    have hdr1 : (encL (c :: l)).drop (encC c).length = encL l := by rw [e0]; exact List.drop_left
    have hbo : bestL t (encL (c :: l)) = none := by
      refine best_eq (o := none) ?_
      intro y hy
      cases hb : begB (encL (c :: l)) y.1 with
      | false => rfl
      | true =>
        obtain ⟨k, hk, _, _, h1, _⟩ := side_enc (hg y hy)
        match k, h1, hk with
        | d :: k, _, hk =>
          have := beg_chars hd1 hk hb
          exact absurd this.symm (hno y hy _ hk d (by simp) c (by simp))
    rw [run_none hg hd1 hn1 hbo, hcut1, hdr1, ih]
    rfl

end Go.Proofs.YtomkipddbmnipaaDoor

namespace Go.Proofs.YtomkipddbmnipaaDoor

def cyrT : List RuleL := [([208, 176], [97]), ([208, 177], [98]), ([208, 178], [118]), ([208, 179], [103]), ([208, 180], [100]), ([208, 181], [101]), ([209, 145], [195, 171]), ([208, 182], [197, 190]), ([208, 183], [122]), ([208, 184], [105]), ([208, 185], [106]), ([208, 186], [107]), ([208, 187], [108]), ([208, 188], [109]), ([208, 189], [110]), ([208, 190], [111]), ([208, 191], [112]), ([209, 128], [114]), ([209, 129], [115]), ([209, 130], [116]), ([209, 131], [117]), ([209, 132], [102]), ([209, 133], [104]), ([209, 134], [99]), ([209, 135], [196, 141]), ([209, 136], [197, 161]), ([209, 137], [197, 157]), ([209, 138], [34]), ([209, 139], [121]), ([209, 140], [39]), ([209, 141], [195, 168]), ([209, 142], [195, 187]), ([209, 143], [195, 162]), ([208, 144], [65]), ([208, 145], [66]), ([208, 146], [86]), ([208, 147], [71]), ([208, 148], [68]), ([208, 149], [69]), ([208, 129], [195, 139]), ([208, 150], [197, 189]), ([208, 151], [90]), ([208, 152], [73]), ([208, 153], [74]), ([208, 154], [75]), ([208, 155], [76]), ([208, 156], [77]), ([208, 157], [78]), ([208, 158], [79]), ([208, 159], [80]), ([208, 160], [82]), ([208, 161], [83]), ([208, 162], [84]), ([208, 163], [85]), ([208, 164], [70]), ([208, 165], [72]), ([208, 166], [67]), ([208, 167], [196, 140]), ([208, 168], [197, 160]), ([208, 169], [197, 156]), ([208, 171], [89]), ([208, 173], [195, 136]), ([208, 174], [195, 155]), ([208, 175], [195, 130])]
def greekT : List RuleL := [([206, 177], [97]), ([206, 178], [98]), ([206, 179], [103]), ([206, 180], [100]), ([206, 181], [101]), ([206, 182], [122]), ([206, 183], [196, 147]), ([206, 184], [116, 104]), ([206, 185], [105]), ([206, 186], [107]), ([206, 187], [108]), ([206, 188], [109]), ([206, 189], [110]), ([206, 190], [120]), ([206, 191], [111]), ([207, 128], [112]), ([207, 129], [114]), ([207, 131], [115]), ([207, 130], [115]), ([207, 132], [116]), ([207, 133], [121]), ([207, 134], [112, 104]), ([207, 135], [99, 104]), ([207, 136], [112, 115]), ([207, 137], [197, 141]), ([206, 191, 207, 133], [111, 117]), ([206, 179, 206, 179], [110, 103]), ([206, 179, 206, 186], [110, 107])]

/-! What holds of the tables. -/
def singleB (s : List UInt8) : Bool := match decR s with | some [c] => Nat.ble c 65535 | _ => false
theorem single_of {s : List UInt8} (h : singleB s = true) : ∃ c, okC c ∧ s = encC c := by
  unfold singleB at h
  split at h
  · rename_i c hc
    obtain ⟨h1, h2⟩ := enc_dec hc
    refine ⟨c, h2 c (by simp), ?_⟩
    rw [← h1]
    simp [encL]
  · cases h
def freeBB : List RuleL → List RuleL → Bool
  | _, [] => true
  | p, x :: t => ((p ++ t).all fun y => !begB y.2 x.2) && freeBB (p ++ [x]) t
theorem free_of : ∀ (t p : List RuleL), freeBB p t = true → ∀ (i k : Nat) (x y : RuleL), t[i]? = some x → (p ++ t)[k]? = some y → p.length + i ≠ k → begB y.2 x.2 = false
  | [], p, _, i, _, _, _, hi, _, _ => by simp at hi
  | z :: t, p, h, i, k, x, y, hi, hk, hne => by
    rw [freeBB, Bool.and_eq_true, List.all_eq_true] at h
    cases i with
    | zero =>
      simp at hi
      subst hi
      have hy : y ∈ p ++ t := by
        rcases Nat.lt_trichotomy k p.length with hlt | rfl | hgt
        · rw [List.getElem?_append_left hlt] at hk
          exact List.mem_append_left _ (List.mem_of_getElem? hk)
        · exact absurd rfl hne
        · rw [List.getElem?_append_right (by omega)] at hk
          obtain ⟨j, hj⟩ : ∃ j, k - p.length = j + 1 := ⟨k - p.length - 1, by omega⟩
          rw [hj, List.getElem?_cons_succ] at hk
          exact List.mem_append_right _ (List.mem_of_getElem? hk)
      simpa using h.1 y hy
    | succ i =>
      rw [List.getElem?_cons_succ] at hi
      have e : p ++ z :: t = (p ++ [z]) ++ t := by simp
      rw [e] at hk
      exact free_of t (p ++ [z]) h.2 i k x y hi hk (by rw [List.length_append, List.length_singleton]; omega)
theorem free_all {t : List RuleL} (h : freeBB [] t = true) : freeB t := fun i k x y hi hk hne => free_of t [] h i k x y hi (by rw [List.nil_append]; exact hk) (by simpa using hne)
theorem cyr_valid : validL cyrT = true := by kernel_rfl
theorem cyr_free0 : freeBB [] cyrT = true := by kernel_rfl
theorem cyr_free : freeB cyrT := free_all cyr_free0
theorem cyr_single0 : (cyrT.all fun x => singleB x.1) = true := by kernel_rfl
theorem cyr_single : Singles cyrT := fun x hx => single_of (List.all_eq_true.1 cyr_single0 x hx)
theorem greek_valid : validL greekT = true := by kernel_rfl
theorem greek_not : ¬ freeB greekT := fun h => by
  have h1 := h 17 18 ([207, 131], [115]) ([207, 130], [115]) (by kernel_rfl) (by kernel_rfl) (by decide)
  exact absurd h1 (by decide)

/-! Letters of a table. -/
theorem run_letters {t : List RuleL} (h : Singles t) (hdi : distB t = true) : ∀ (xs : List RuleL), (∀ x ∈ xs, x ∈ t) → runL t (xs.flatMap fun x => x.1) = (xs.flatMap fun x => x.2, 0) ∧ ∃ l, decR (xs.flatMap fun x => x.1) = some l
  | [], _ => ⟨run_nil t, [], rfl⟩
  | x :: xs, hx => by
    have hg := good_single h
    obtain ⟨ih, l, hl⟩ := run_letters h hdi xs fun y hy => hx y (by simp [hy])
    have hxt := hx x (by simp)
    obtain ⟨c, hc, e⟩ := h x hxt
    have hd : decR ((x :: xs).flatMap fun x => x.1) = some (c :: l) := by rw [List.flatMap_cons, e, dec_cons hc, hl]; rfl
    have hne : ((x :: xs).flatMap fun x => x.1) ≠ [] := by rw [List.flatMap_cons, e]; intro h0; exact encC_ne c (List.append_eq_nil_iff.1 h0).1
    have hb : bestL t ((x :: xs).flatMap fun x => x.1) = some x := by
      rw [List.flatMap_cons]
      refine best_only hxt (beg_app _ _) fun y hy hby => .inl ?_
      obtain ⟨d, hdk, e2⟩ := h y hy
      rw [e, e2] at hby
      exact dist_same hdi hy hxt (by rw [e, e2, enc_beg hc hdk hby])
    refine ⟨?_, c :: l, hd⟩
    rw [run_some hg hd hne hb]
    have hdr : ((x :: xs).flatMap fun x => x.1).drop x.1.length = xs.flatMap fun x => x.1 := by rw [List.flatMap_cons]; exact List.drop_left
    rw [hdr, ih]
    rfl

/-! Scripts of what is written. -/
theorem scr_small : ∀ (l : List Nat) (o : Nat), o ≤ 1 → (∀ c ∈ l, (clsR (c : Int)).1 ≤ 1) → scrF o l ≤ 1
  | [], o, ho, _ => ho
  | c :: l, o, ho, h => by
    have hc := h c (by simp)
    have hl : ∀ c ∈ l, (clsR (c : Int)).1 ≤ 1 := fun x hx => h x (by simp [hx])
    by_cases h0 : (clsR (c : Int)).1 = 0
    · rw [scr_none h0]; exact scr_small l o ho hl
    · rw [scr_next h0 (by omega)]
      exact scr_small l _ hc hl
def romanB (s : List UInt8) : Bool := match decR s with | some l => l.all fun c => Nat.ble (clsF c).1 1 | none => false
theorem roman_of {s : List UInt8} (h : romanB s = true) : ∃ l, decR s = some l ∧ ∀ c ∈ l, (clsR (c : Int)).1 ≤ 1 := by
  unfold romanB at h
  cases hd : decR s with
  | none => rw [hd] at h; cases h
  | some l =>
    rw [hd] at h
    refine ⟨l, rfl, fun c hc => ?_⟩
    rw [clsF_eq]
    exact Nat.le_of_ble_eq_true (List.all_eq_true.1 h c hc)
theorem cyr_latin0 : (cyrT.all fun x => romanB x.2) = true := by kernel_rfl
theorem roman_all : ∀ xs : List RuleL, (∀ x ∈ xs, romanB x.2 = true) → ∃ l, decR (xs.flatMap fun x => x.2) = some l ∧ ∀ c ∈ l, (clsR (c : Int)).1 ≤ 1
  | [], _ => ⟨[], rfl, by simp⟩
  | x :: xs, h => by
    obtain ⟨l, h1, h2⟩ := roman_of (h x (by simp))
    obtain ⟨m, h3, h4⟩ := roman_all xs fun y hy => h y (by simp [hy])
    refine ⟨l ++ m, by rw [List.flatMap_cons, dec_app h1, h3]; rfl, fun c hc => ?_⟩
    rcases List.mem_append.1 hc with hc | hc
    · exact h2 c hc
    · exact h4 c hc
/-- Letters of the Cyrillic table: covered, without Cyrillic letters behind it, and they come back. -/
theorem cyr_letters (xs : List RuleL) (hx : ∀ x ∈ xs, x ∈ cyrT) :
    toL cyrT (xs.flatMap fun x => x.1) = xs.flatMap (fun x => x.2) ∧ coversL cyrT (xs.flatMap fun x => x.1) = true ∧ backL cyrT (xs.flatMap fun x => x.2) = xs.flatMap (fun x => x.1) ∧ scriptR (xs.flatMap fun x => x.2) ≤ 1 := by
  have hv := valid_of cyr_valid
  obtain ⟨hrun, l, hl⟩ := run_letters cyr_single hv.dist xs hx
  obtain ⟨m, hm, hm2⟩ := roman_all xs fun x h => List.all_eq_true.1 cyr_latin0 x (hx x h)
  have hback := run_back hv cyr_free _ _ l (Nat.le_refl _) hl (by rw [hrun])
  rw [hrun] at hback
  refine ⟨?_, ?_, ?_, ?_⟩
  · unfold toL
    rw [if_pos ⟨cyr_valid, by rw [hl]; rfl⟩, hrun]
  · unfold coversL
    rw [cyr_valid, hl, hrun]
    rfl
  · unfold backL
    rw [if_pos ⟨cyr_valid, by rw [hm]; rfl⟩, hback]
  · unfold scriptR
    rw [hm]
    exact scr_small m 0 (by decide) hm2

end Go.Proofs.YtomkipddbmnipaaDoor

namespace Go.Proofs.YtomkipddbmnipaaDoor
open Go.RowKit

theorem str_pre {P : Program} (T : TypeId) (hT : P.underlying T = some .string) (s : List UInt8) (k : Nat) (h : k ≤ s.length) (W : World) :
    (Instr.sliceAt T (.string (str s)) none (some (.int .i64 (k : Int))) none).run P W = .ok (.string (str (s.take k))) W := by
  rw [run_sliceAt_string W _ _ _ _ _ hT, run_slice_string_h W _ _ hT .i64 (k : Int) (by omega) (by show (k : Int) ≤ (s.length : Int); omega)]
  congr 2
  apply ByteArray.ext
  simp [str]
theorem str_suf {P : Program} (T : TypeId) (hT : P.underlying T = some .string) (s : List UInt8) (k : Nat) (h : k ≤ s.length) (W : World) :
    (Instr.sliceAt T (.string (str s)) (some (.int .i64 (k : Int))) none none).run P W = .ok (.string (str (s.drop k))) W := by
  rw [run_sliceAt_string W _ _ _ _ _ hT, run_slice_string_l W _ _ hT .i64 (k : Int) (by omega) (by show (k : Int) ≤ (s.length : Int); omega)]
  congr 2
  apply ByteArray.ext
  simp [str]
  exact List.take_of_length_le (by rw [List.length_drop]; exact Nat.le_refl _)
theorem strs_beq (a b : List UInt8) : ((str a).toList == (str b).toList) = decide (a = b) := by
  rw [str_toList, str_toList]
  by_cases h : a = b
  · rw [h, decide_eq_true rfl]; simp
  · rw [decide_eq_false h]; simpa using h
theorem strs_some {a : List UInt8} (h : a ≠ []) : (str a).toList.isEmpty = false := by
  rw [str_toList]
  cases a with
  | nil => exact absurd rfl h
  | cons x a => rfl
theorem strs_ne {a : List UInt8} (h : a ≠ []) : ((str a).toList == []) = false := by
  rw [str_toList]
  cases a with
  | nil => exact absurd rfl h
  | cons x a => rfl
theorem add_strs {P : Program} {w : World} (a b : List UInt8) (h : a.length + b.length ≤ 9223372036854775807) : (Op.stringOp .add (str a) (str b)).run P w = .ok (.string (str (a ++ b))) w := by
  rw [run_string_add_sum w (str a) (str b) h, str_append]

end Go.Proofs.YtomkipddbmnipaaDoor

namespace Go.Proofs.YtomkipddbmnipaaDoor
open Go.RowKit

/-- In w, the slice v reads as the list xs: each element takes sz cells that hold its values. -/
def SArr {α : Type} (sz : Nat) (val : α → List Value) (w : World) (B : Nat) (v : Value) (xs : List α) : Prop :=
  (v = .slice none 0 0 ∧ xs = []) ∨ ∃ (a : Addr) (c : Nat), v = .slice (some a) xs.length c ∧ xs.length ≤ c ∧ (0 < xs.length → a.block < B) ∧ ∀ i u, xs[i]? = some u → ∀ j x, (val u)[j]? = some x → w.cell? (a.add (i * sz + j)) = some x

section
variable {α : Type} {sz : Nat} {val : α → List Value}
theorem SArr.nil_ (w : World) (B : Nat) : SArr sz val w B (.slice none 0 0) [] := .inl ⟨rfl, rfl⟩
theorem SArr.keep {w w' : World} {B : Nat} {v : Value} {xs : List α} (h : SArr sz val w B v xs) (hk : ∀ p : Addr, p.block < B → w'.cell? p = w.cell? p) : SArr sz val w' B v xs := by
  rcases h with h | ⟨a, c, e, hl, hb, hc⟩
  · exact .inl h
  · exact .inr ⟨a, c, e, hl, hb, fun i u hu j x hx => (hk _ (by rw [add_block]; exact hb (by have := (List.getElem?_eq_some_iff.1 hu).1; omega))).trans (hc i u hu j x hx)⟩
theorem SArr.below {w w' : World} {B : Nat} {v : Value} {xs : List α} (h : SArr sz val w B v xs) (hb : Below B w w') : SArr sz val w' B v xs := h.keep fun _ hp => hb.cell hp
theorem SArr.more {w : World} {B B' : Nat} {v : Value} {xs : List α} (h : SArr sz val w B v xs) (hB : B ≤ B') : SArr sz val w B' v xs := by
  rcases h with h | ⟨a, c, e, hl, hb, hc⟩
  · exact .inl h
  · exact .inr ⟨a, c, e, hl, fun h => by have := hb h; omega, hc⟩
theorem SArr.at_ {W w : World} {v : Value} {xs : List α} (h : SArr sz val W W.heap.size v xs) (hb : Below W.heap.size W w) : SArr sz val w W.heap.size v xs := h.below hb
theorem SArr.up {W w : World} {v : Value} {xs : List α} (h : SArr sz val W W.heap.size v xs) (hb : Below W.heap.size W w) : SArr sz val w w.heap.size v xs := (h.below hb).more hb.size
theorem SArr.form {w : World} {B : Nat} {v : Value} {xs : List α} (h : SArr sz val w B v xs) : ∃ A c, v = .slice A xs.length c := by
  rcases h with ⟨e, rfl⟩ | ⟨a, c, e, _⟩
  · exact ⟨_, _, e⟩
  · exact ⟨_, _, e⟩
theorem SArr.len {w : World} {B n c : Nat} {A : Option Addr} {xs : List α} (h : SArr sz val w B (.slice A n c) xs) : xs.length = n := by
  rcases h with ⟨e, rfl⟩ | ⟨a, c', e, _⟩
  · injection e with _ e2 _; exact e2.symm
  · injection e with _ e2 _; exact e2.symm
theorem SArr.cap {w : World} {B n c : Nat} {A : Option Addr} {xs : List α} (h : SArr sz val w B (.slice A n c) xs) : n ≤ c := by
  have hl := h.len
  rcases h with ⟨e, rfl⟩ | ⟨a, c', e, hc, _⟩
  · simp at hl; omega
  · injection e with _ _ e3; omega
/-- A slice with elements: its address written out. -/
theorem SArr.some_ {w : World} {B n c : Nat} {A : Option Addr} {xs : List α} (h : SArr sz val w B (.slice A n c) xs) (hv : ∀ x, (val x).length = sz) (hs : 0 < sz) (h0 : 0 < n) :
    ∃ b off, A = some ⟨b, off, none⟩ ∧ b < B ∧ ∀ i u, xs[i]? = some u → ∀ j x, (val u)[j]? = some x → w.cell? ⟨b, off + i * sz + j, none⟩ = some x := by
  have hl := h.len
  rcases h with ⟨e, _⟩ | ⟨a, c', e, _, hb, hc⟩
  · injection e with _ e2 _; omega
  · injection e with e1 e2 e3
    have hu := List.getElem?_eq_getElem (show 0 < xs.length by omega)
    have hx := List.getElem?_eq_getElem (l := val xs[0]) (i := 0) (by rw [hv]; exact hs)
    have hcell := hc 0 _ hu 0 _ hx
    obtain ⟨b, off, spot⟩ := a
    have hspot : spot = none := by simpa [Addr.add] using World.cell?_spot hcell
    subst hspot
    refine ⟨b, off, e1, hb (by omega), fun i u hu j x hx => ?_⟩
    have := hc i u hu j x hx
    rw [add_plain, ← Nat.add_assoc] at this
    exact this
theorem SArr.head {w : World} {B N n c : Nat} {A : Option Addr} {xs : List α} (h : SArr sz val w B (.slice A n c) xs) (hN : N ≤ n) : SArr sz val w B (.slice A N c) (xs.take N) := by
  have hn := h.len
  have hl : (xs.take N).length = N := by rw [List.length_take]; omega
  rcases h with ⟨e, rfl⟩ | ⟨a, c', e, hc, hb, hcell⟩
  · injection e with e1 e2 e3
    subst e1 e2 e3
    obtain rfl : N = 0 := by omega
    exact .inl ⟨rfl, rfl⟩
  · injection e with e1 e2 e3
    subst e1 e2 e3
    refine .inr ⟨a, c, by rw [hl], by omega, fun h0 => hb (by omega), fun i u hu j x hx => hcell i u ?_ j x hx⟩
    rw [List.getElem?_take] at hu
    split at hu
    · exact hu
    · cases hu
theorem flat_len (hv : ∀ x, (val x).length = sz) : ∀ xs : List α, (xs.flatMap val).length = xs.length * sz
  | [] => by simp
  | x :: xs => by rw [List.flatMap_cons, List.length_append, hv, flat_len hv xs, List.length_cons, Nat.add_mul, Nat.one_mul, Nat.add_comm]
theorem flat_at (hv : ∀ x, (val x).length = sz) : ∀ (xs : List α) (i : Nat) (u : α) (j : Nat) (x : Value), xs[i]? = some u → (val u)[j]? = some x → (xs.flatMap val)[i * sz + j]? = some x
  | [], i, u, j, x, h, _ => by simp at h
  | y :: xs, 0, u, j, x, h, hx => by
    simp at h
    subst h
    rw [List.flatMap_cons, Nat.zero_mul, Nat.zero_add, List.getElem?_append_left (List.getElem?_eq_some_iff.1 hx).1]
    exact hx
  | y :: xs, i + 1, u, j, x, h, hx => by
    rw [List.getElem?_cons_succ] at h
    have hle : sz ≤ (i + 1) * sz + j := Nat.le_trans (Nat.le_mul_of_pos_left sz (Nat.succ_pos i)) (Nat.le_add_right _ _)
    rw [List.flatMap_cons, List.getElem?_append_right (by rw [hv]; exact hle), hv]
    have e : (i + 1) * sz + j - sz = i * sz + j := by rw [Nat.add_mul, Nat.one_mul]; omega
    rw [e]
    exact flat_at hv xs i u j x h hx
theorem SArr.of_own {w : World} {base e : Nat} {v : Value} {xs : List α} (hv : ∀ x, (val x).length = sz) (h : w.ownsRow base e sz v xs.length (xs.flatMap val)) : SArr sz val w w.heap.size v xs := by
  rcases h.2 with ⟨hv', h0⟩ | ⟨g, cap, cur, hvv, _, hg, hc, _, hsz, htake⟩
  · exact .inl ⟨hv', List.length_eq_zero_iff.1 h0⟩
  · refine .inr ⟨_, cap, hvv, hc, fun _ => (Array.getElem?_eq_some_iff.1 hg).1, fun i u hu j x hx => ?_⟩
    rw [plain_add, Go.cell_of_row w g _ cur e (0, 0) hg]
    have h2 := flat_at hv xs i u j x hu hx
    rw [← htake, List.getElem?_take] at h2
    split at h2
    · rw [← Array.getElem?_toList]; exact h2
    · cases h2
theorem SArr.of_box {w : World} {g n c : Nat} {t : TypeId} {cs : Array Value} {xs : List α} (hb : Box w g t cs) (hn : xs.length = n) (hc : n ≤ c) (h : ∀ (i : Nat) (u : α), xs[i]? = some u → ∀ j x, (val u)[j]? = some x → cs[i * sz + j]? = some x) : SArr sz val w (g + 1) (.slice (some ⟨g, 0, none⟩) n c) xs := by
  subst hn
  exact .inr ⟨⟨g, 0, none⟩, c, rfl, hc, fun _ => by simp, fun i u hu j x hx => by rw [plain_add, hb.cell]; exact h i u hu j x hx⟩

/-- append(s, y) of one struct: the new element stands in a block of its own, the last one made. -/
theorem append_struct {P : Program} (t e : TypeId) (z : Value) (bytes : Nat) (ht : P.underlying t = some (.slice e)) (info : (P.info? e).map (fun i => (i.zero, i.size, i.bytes)) = some (some z, sz, bytes))
    (hzs : z.cells.size = sz) (hs0 : 0 < sz) (hbytes : bytes ≤ 100) (hv : ∀ x, (val x).length = sz) (hval : ∀ x, ∀ u ∈ val x, u.oneCell' = true)
    {ops : Array Oper} {rest : List Oper} {o : Oper} {a : Act} {Q : Exit → Act → World → Prop} (w : World) (hgd : o.guard = none) (s x : Operand)
    (ho : o.op = .call { callee := .builtin .append, args := #[s, x], argTypes := #[t, t] })
    (base : Nat) (v : Value) (xs : List α) (hs : a.eval s = v) (hown : w.ownsRow base e sz v xs.length (xs.flatMap val)) (y : α) (u : Array Value) (hu : u = (val y).toArray) (N : Nat) (hN : w.heap.size = N)
    (hx : a.eval x = .slice (some ⟨N, 0, none⟩) 1 1) (hlen : xs.length ≤ 1000000000000 - 1) (hbase : base ≤ w.heap.size)
    (h : ∀ v' w', w'.ownsRow base e sz v' (xs ++ [y]).length ((xs ++ [y]).flatMap val) → Below base w w' → wpList P ops Q rest (a.put o.dst v') w') : wpList P ops Q (o :: rest) a (w.alloc (.cells u e)) := by
  obtain ⟨i0, hi, hz0, hz1, hz2⟩ := info_parts info
  subst hu hN
  have hown1 : (w.alloc (.cells (val y).toArray e)).ownsRow base e sz v xs.length (xs.flatMap val) := own_keep_below hown ((Below.refl _ _).alloc (Nat.le_refl _) _)
  have hcell : ∀ j u, (val y)[j]? = some u → (w.alloc (.cells (val y).toArray e)).cell? ((⟨w.heap.size, 0, none⟩ : Addr).add j) = some u := by
    intro j u hu
    rw [plain_add, (Box.made w e (val y).toArray).cell]
    simpa using hu
  have hb0 : Below base w (w.alloc (.cells (val y).toArray e)) := (Below.refl _ _).alloc hbase _
  refine wpList_append_own (w := w.alloc (.cells (val y).toArray e)) hgd s x t ho base e i0 z sz bytes ht hi hz0 hz1 hz2 hzs hs0 v xs.length (xs.flatMap val) hs hown1 ⟨w.heap.size, 0, none⟩ 1 1 (val y) hx (by rw [hv, Nat.one_mul]) hcell (hval y)
    (by unfold maxLen; omega) (by have := Nat.mul_le_mul (show xs.length + 1 ≤ 1000000000000 by omega) hbytes; omega) (by simp; omega) ?_
  intro v' w' h1 h2 _
  exact h v' w' (by rw [List.length_append, List.flatMap_append]; simpa using h1) (hb0.grown h2 (by simp; omega) fun k hk => (hown1.lt k hk).1)
/-- The same as a step of a region that draws its order. -/
theorem step_struct {P : Program} (t e : TypeId) (z : Value) (bytes : Nat) (ht : P.underlying t = some (.slice e)) (info : (P.info? e).map (fun i => (i.zero, i.size, i.bytes)) = some (some z, sz, bytes))
    (hzs : z.cells.size = sz) (hs0 : 0 < sz) (hbytes : bytes ≤ 100) (hv : ∀ x, (val x).length = sz) (hval : ∀ x, ∀ u ∈ val x, u.oneCell' = true)
    {ops : Array Oper} {o : Oper} {a : Act} {K : Act → World → Prop} {Q : Exit → Act → World → Prop} {E : Prop} (w : World) (hgd : o.guard = none) (s x : Operand)
    (ho : o.op = .call { callee := .builtin .append, args := #[s, x], argTypes := #[t, t] })
    (base : Nat) (v : Value) (xs : List α) (hs : a.eval s = v) (hown : w.ownsRow base e sz v xs.length (xs.flatMap val)) (y : α) (ad : Addr)
    (hx : a.eval x = .slice (some ad) 1 1) (hcell : ∀ j u, (val y)[j]? = some u → w.cell? (ad.add j) = some u) (hlen : xs.length ≤ 1000000000000 - 1) (hbase : base ≤ w.heap.size)
    (h : ∀ v' w', w'.ownsRow base e sz v' (xs ++ [y]).length ((xs ++ [y]).flatMap val) → Below base w w' → K (a.put o.dst v') w') :
    if Region.wanted o (yielded ops a.tmps) = true then Oper.wp P o a w K Q else E := by
  have hw : Region.wanted o (yielded ops a.tmps) = true := by simp [Region.wanted, hgd]
  rw [if_pos hw]
  obtain ⟨i0, hi, hz0, hz1, hz2⟩ := info_parts info
  refine wp_append_own w s x t ho base e i0 z sz bytes ht hi hz0 hz1 hz2 hzs hs0 v xs.length (xs.flatMap val) hs hown ad 1 1 (val y) hx (by rw [hv, Nat.one_mul]) hcell (hval y)
    (by unfold maxLen; omega) (by have := Nat.mul_le_mul (show xs.length + 1 ≤ 1000000000000 by omega) hbytes; omega) hbase ?_
  intro v' w' h1 h2 _
  exact h v' w' (by rw [List.length_append, List.flatMap_append]; simpa using h1) ((Below.refl _ _).grown h2 hbase fun k hk => (hown.lt k hk).1)
theorem cells_made {cs : List Value} (w : World) (e : TypeId) : ∀ (j : Nat) (u : Value), cs[j]? = some u → (w.alloc (.cells cs.toArray e)).cell? ((⟨w.heap.size, 0, none⟩ : Addr).add j) = some u := by
  intro j u hu
  rw [plain_add, (Box.made w e cs.toArray).cell]
  simpa using hu
end

end Go.Proofs.YtomkipddbmnipaaDoor
