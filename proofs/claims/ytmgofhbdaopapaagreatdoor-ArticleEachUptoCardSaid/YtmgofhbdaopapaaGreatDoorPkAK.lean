/-
  The reference's Languages, Articles.
  Blanks, step by step.
  The reference's spaces, begin.
-/
import Derived.Test.YtmgofhbdaopapaaGreatDoorPkAI
import Derived.Test.YtmgofhbdaopapaaGreatDoorPkAJ
namespace Go.Proofs.YtmgofhbdaopapaaGreatDoor
open Go.RowKit

theorem strl_beq (a b : List UInt8) : ((str a).toList == b) = decide (a = b) := by
  have h := strs_beq a b
  rwa [str_toList b] at h
theorem arr_made (w : World) (T : TypeId) (L : List (List UInt8)) (n : Nat) (cs : Array Value) (hn : L.length = n) (h : cs = (L.map sv).toArray) :
    Arr sv (w.alloc (.cells cs T)) (w.alloc (.cells cs T)).heap.size (.slice (some ⟨w.heap.size, 0, none⟩) n n) L := by
  subst h
  have hx : Arr sv (w.alloc (.cells (L.map sv).toArray T)) (w.heap.size + 1) (.slice (some ⟨w.heap.size, 0, none⟩) n n) L := Arr.of_box (Box.made w T (L.map sv).toArray) hn (Nat.le_refl _) (fun i u hu => by simp [hu])
  exact hx.more (by simp)

set_option maxRecDepth 20000 in
set_option maxHeartbeats 3200000 in
theorem refLanguages_any (w : World) : Calls Tryz.prog 17 #[] w fun e w' => ∃ A, e = .returned (.slice A 10 10) ∧ Arr sv w' w'.heap.size (.slice A 10 10) langT ∧ Below w.heap.size w w' := by
  go_enter Tryz.func17, Tryz.ntmps17
  go_wp2
  go_ret
  exact ⟨_, rfl, arr_made w _ langT 10 _ rfl (by kernel_rfl), (Below.refl _ _).alloc (Nat.le_refl _) _⟩

theorem arts_none {lang : List UInt8} (h0 : lang ≠ [100, 97, 110]) (h1 : lang ≠ [100, 117, 116]) (h2 : lang ≠ [101, 110, 103]) (h3 : lang ≠ [102, 114, 101]) (h4 : lang ≠ [103, 101, 114]) (h5 : lang ≠ [103, 114, 101]) (h6 : lang ≠ [105, 116, 97]) (h7 : lang ≠ [112, 111, 114]) (h8 : lang ≠ [115, 112, 97]) (h9 : lang ≠ [115, 119, 101]) : artsOf lang = [] := by
  have hb : ∀ {x y : List UInt8}, y ≠ x → (x == y) = false := fun h => by simpa using fun e => h e.symm
  unfold artsOf langT artT
  simp only [List.zip_cons_cons, List.zip_nil_right, List.find?_cons, List.find?_nil]
  rw [hb h0]
  rw [hb h1]
  rw [hb h2]
  rw [hb h3]
  rw [hb h4]
  rw [hb h5]
  rw [hb h6]
  rw [hb h7]
  rw [hb h8]
  rw [hb h9]
  rfl

set_option maxRecDepth 20000 in
set_option maxHeartbeats 6400000 in
theorem refArticles_any (lang : List UInt8) (w : World) : Calls Tryz.prog 21 #[.string (str lang)] w fun e w' => ∃ A n c, e = .returned (.slice A n c) ∧ Arr sv w' w'.heap.size (.slice A n c) (artsOf lang) ∧ Below w.heap.size w w' := by
  by_cases h0 : lang = [100, 97, 110]
  · have q0 : ((str lang).toList == [100, 97, 110]) = true := (strl_beq lang [100, 97, 110]).trans (decide_eq_true h0)
    have hE : artsOf lang = [[101, 110], [101, 116], [100, 101, 110], [100, 101, 116]] := by rw [h0]; kernel_rfl
    rw [hE]
    clear hE h0
    go_enter Tryz.func21, Tryz.ntmps21
    go_wp2
    go_ret
    exact ⟨_, _, _, rfl, arr_made w _ [[101, 110], [101, 116], [100, 101, 110], [100, 101, 116]] 4 _ rfl (by kernel_rfl), (Below.refl _ _).alloc (Nat.le_refl _) _⟩
  have q0 : ((str lang).toList == [100, 97, 110]) = false := (strl_beq lang [100, 97, 110]).trans (decide_eq_false h0)
  by_cases h1 : lang = [100, 117, 116]
  · have q1 : ((str lang).toList == [100, 117, 116]) = true := (strl_beq lang [100, 117, 116]).trans (decide_eq_true h1)
    have hE : artsOf lang = [[100, 101], [104, 101, 116], [101, 101, 110], [39, 116]] := by rw [h1]; kernel_rfl
    rw [hE]
    clear hE h0 h1
    go_enter Tryz.func21, Tryz.ntmps21
    go_wp2
    go_ret
    exact ⟨_, _, _, rfl, arr_made w _ [[100, 101], [104, 101, 116], [101, 101, 110], [39, 116]] 4 _ rfl (by kernel_rfl), (Below.refl _ _).alloc (Nat.le_refl _) _⟩
  have q1 : ((str lang).toList == [100, 117, 116]) = false := (strl_beq lang [100, 117, 116]).trans (decide_eq_false h1)
  by_cases h2 : lang = [101, 110, 103]
  · have q2 : ((str lang).toList == [101, 110, 103]) = true := (strl_beq lang [101, 110, 103]).trans (decide_eq_true h2)
    have hE : artsOf lang = [[116, 104, 101], [97], [97, 110]] := by rw [h2]; kernel_rfl
    rw [hE]
    clear hE h0 h1 h2
    go_enter Tryz.func21, Tryz.ntmps21
    go_wp2
    go_ret
    exact ⟨_, _, _, rfl, arr_made w _ [[116, 104, 101], [97], [97, 110]] 3 _ rfl (by kernel_rfl), (Below.refl _ _).alloc (Nat.le_refl _) _⟩
  have q2 : ((str lang).toList == [101, 110, 103]) = false := (strl_beq lang [101, 110, 103]).trans (decide_eq_false h2)
  by_cases h3 : lang = [102, 114, 101]
  · have q3 : ((str lang).toList == [102, 114, 101]) = true := (strl_beq lang [102, 114, 101]).trans (decide_eq_true h3)
    have hE : artsOf lang = [[108, 101], [108, 97], [108, 101, 115], [108, 39], [117, 110], [117, 110, 101], [100, 101, 115]] := by rw [h3]; kernel_rfl
    rw [hE]
    clear hE h0 h1 h2 h3
    go_enter Tryz.func21, Tryz.ntmps21
    go_wp2
    go_ret
    exact ⟨_, _, _, rfl, arr_made w _ [[108, 101], [108, 97], [108, 101, 115], [108, 39], [117, 110], [117, 110, 101], [100, 101, 115]] 7 _ rfl (by kernel_rfl), (Below.refl _ _).alloc (Nat.le_refl _) _⟩
  have q3 : ((str lang).toList == [102, 114, 101]) = false := (strl_beq lang [102, 114, 101]).trans (decide_eq_false h3)
  by_cases h4 : lang = [103, 101, 114]
  · have q4 : ((str lang).toList == [103, 101, 114]) = true := (strl_beq lang [103, 101, 114]).trans (decide_eq_true h4)
    have hE : artsOf lang = [[100, 101, 114], [100, 105, 101], [100, 97, 115], [101, 105, 110], [101, 105, 110, 101]] := by rw [h4]; kernel_rfl
    rw [hE]
    clear hE h0 h1 h2 h3 h4
    go_enter Tryz.func21, Tryz.ntmps21
    go_wp2
    go_ret
    exact ⟨_, _, _, rfl, arr_made w _ [[100, 101, 114], [100, 105, 101], [100, 97, 115], [101, 105, 110], [101, 105, 110, 101]] 5 _ rfl (by kernel_rfl), (Below.refl _ _).alloc (Nat.le_refl _) _⟩
  have q4 : ((str lang).toList == [103, 101, 114]) = false := (strl_beq lang [103, 101, 114]).trans (decide_eq_false h4)
  by_cases h5 : lang = [103, 114, 101]
  · have q5 : ((str lang).toList == [103, 114, 101]) = true := (strl_beq lang [103, 114, 101]).trans (decide_eq_true h5)
    have hE : artsOf lang = [[206, 191], [206, 183], [207, 132, 206, 191], [206, 191, 206, 185], [207, 132, 206, 177]] := by rw [h5]; kernel_rfl
    rw [hE]
    clear hE h0 h1 h2 h3 h4 h5
    go_enter Tryz.func21, Tryz.ntmps21
    go_wp2
    go_ret
    exact ⟨_, _, _, rfl, arr_made w _ [[206, 191], [206, 183], [207, 132, 206, 191], [206, 191, 206, 185], [207, 132, 206, 177]] 5 _ rfl (by kernel_rfl), (Below.refl _ _).alloc (Nat.le_refl _) _⟩
  have q5 : ((str lang).toList == [103, 114, 101]) = false := (strl_beq lang [103, 114, 101]).trans (decide_eq_false h5)
  by_cases h6 : lang = [105, 116, 97]
  · have q6 : ((str lang).toList == [105, 116, 97]) = true := (strl_beq lang [105, 116, 97]).trans (decide_eq_true h6)
    have hE : artsOf lang = [[105, 108], [108, 111], [108, 97], [105], [103, 108, 105], [108, 101], [108, 39], [117, 110], [117, 110, 111], [117, 110, 97]] := by rw [h6]; kernel_rfl
    rw [hE]
    clear hE h0 h1 h2 h3 h4 h5 h6
    go_enter Tryz.func21, Tryz.ntmps21
    go_wp2
    go_ret
    exact ⟨_, _, _, rfl, arr_made w _ [[105, 108], [108, 111], [108, 97], [105], [103, 108, 105], [108, 101], [108, 39], [117, 110], [117, 110, 111], [117, 110, 97]] 10 _ rfl (by kernel_rfl), (Below.refl _ _).alloc (Nat.le_refl _) _⟩
  have q6 : ((str lang).toList == [105, 116, 97]) = false := (strl_beq lang [105, 116, 97]).trans (decide_eq_false h6)
  by_cases h7 : lang = [112, 111, 114]
  · have q7 : ((str lang).toList == [112, 111, 114]) = true := (strl_beq lang [112, 111, 114]).trans (decide_eq_true h7)
    have hE : artsOf lang = [[111], [97], [111, 115], [97, 115], [117, 109], [117, 109, 97]] := by rw [h7]; kernel_rfl
    rw [hE]
    clear hE h0 h1 h2 h3 h4 h5 h6 h7
    go_enter Tryz.func21, Tryz.ntmps21
    go_wp2
    go_ret
    exact ⟨_, _, _, rfl, arr_made w _ [[111], [97], [111, 115], [97, 115], [117, 109], [117, 109, 97]] 6 _ rfl (by kernel_rfl), (Below.refl _ _).alloc (Nat.le_refl _) _⟩
  have q7 : ((str lang).toList == [112, 111, 114]) = false := (strl_beq lang [112, 111, 114]).trans (decide_eq_false h7)
  by_cases h8 : lang = [115, 112, 97]
  · have q8 : ((str lang).toList == [115, 112, 97]) = true := (strl_beq lang [115, 112, 97]).trans (decide_eq_true h8)
    have hE : artsOf lang = [[101, 108], [108, 97], [108, 111, 115], [108, 97, 115], [117, 110], [117, 110, 97]] := by rw [h8]; kernel_rfl
    rw [hE]
    clear hE h0 h1 h2 h3 h4 h5 h6 h7 h8
    go_enter Tryz.func21, Tryz.ntmps21
    go_wp2
    go_ret
    exact ⟨_, _, _, rfl, arr_made w _ [[101, 108], [108, 97], [108, 111, 115], [108, 97, 115], [117, 110], [117, 110, 97]] 6 _ rfl (by kernel_rfl), (Below.refl _ _).alloc (Nat.le_refl _) _⟩
  have q8 : ((str lang).toList == [115, 112, 97]) = false := (strl_beq lang [115, 112, 97]).trans (decide_eq_false h8)
  by_cases h9 : lang = [115, 119, 101]
  · have q9 : ((str lang).toList == [115, 119, 101]) = true := (strl_beq lang [115, 119, 101]).trans (decide_eq_true h9)
    have hE : artsOf lang = [[101, 110], [101, 116, 116], [100, 101, 110], [100, 101, 116]] := by rw [h9]; kernel_rfl
    rw [hE]
    clear hE h0 h1 h2 h3 h4 h5 h6 h7 h8 h9
    go_enter Tryz.func21, Tryz.ntmps21
    go_wp2
    go_ret
    exact ⟨_, _, _, rfl, arr_made w _ [[101, 110], [101, 116, 116], [100, 101, 110], [100, 101, 116]] 4 _ rfl (by kernel_rfl), (Below.refl _ _).alloc (Nat.le_refl _) _⟩
  have q9 : ((str lang).toList == [115, 119, 101]) = false := (strl_beq lang [115, 119, 101]).trans (decide_eq_false h9)
  rw [arts_none h0 h1 h2 h3 h4 h5 h6 h7 h8 h9]
  clear h0 h1 h2 h3 h4 h5 h6 h7 h8 h9
  go_enter Tryz.func21, Tryz.ntmps21
  go_wp2
  go_ret
  exact ⟨_, _, _, rfl, .inl ⟨rfl, rfl⟩, Below.refl _ _⟩

end Go.Proofs.YtmgofhbdaopapaaGreatDoor

namespace Go.Proofs.YtmgofhbdaopapaaGreatDoor

theorem drop_at9 {s : List UInt8} {j : Nat} {b : UInt8} (h : s[j]? = some b) : s.drop j = b :: s.drop (j + 1) := by
  obtain ⟨h1, h2⟩ := List.getElem?_eq_some_iff.1 h
  rw [List.drop_eq_getElem_cons h1, h2]
theorem sp_yes {s : List UInt8} {j : Nat} (h : s[j]? = some 32) : spN s (j + 1) = spN s j := by
  unfold spN
  rw [drop_at9 h, blankN, if_pos rfl]
  omega
theorem sp_no {s : List UInt8} {j : Nat} {b : UInt8} (h : s[j]? = some b) (hb : b ≠ 32) : spN s j = j := by
  unfold spN
  rw [drop_at9 h, blankN, if_neg hb]
  rfl
theorem sp_end {s : List UInt8} {j : Nat} (h : s.length ≤ j) : spN s j = j := by
  unfold spN
  rw [List.drop_of_length_le h]
  rfl
theorem wd_yes {s : List UInt8} {j : Nat} {b : UInt8} (h : s[j]? = some b) (hb : b ≠ 32) : (j + 1) + wordN (s.drop (j + 1)) = j + wordN (s.drop j) := by
  rw [drop_at9 h, wordN, if_neg hb]
  omega
theorem wd_no {s : List UInt8} {j : Nat} (h : s[j]? = some 32) : j + wordN (s.drop j) = j := by
  rw [drop_at9 h, wordN, if_pos rfl]
  rfl
theorem wd_end {s : List UInt8} {j : Nat} (h : s.length ≤ j) : j + wordN (s.drop j) = j := by
  rw [List.drop_of_length_le h]
  rfl
theorem spN_le (s : List UInt8) (k : Nat) (hk : k ≤ s.length) : k ≤ spN s k ∧ spN s k ≤ s.length := by
  obtain ⟨u, h1, _, h3⟩ := blank_split (s.drop k)
  unfold spN
  rw [List.length_drop] at h3
  omega
theorem hits_step (s : List UInt8) (l : List (List UInt8)) (k : Nat) {a : List UInt8} (h : l[k]? = some a) (hp : (l.take k).findSome? (artHit s (wordN s) (cutR s 2).length) = none) :
    (∀ v, artHit s (wordN s) (cutR s 2).length a = some v → hitsN s l = v) ∧ (artHit s (wordN s) (cutR s 2).length a = none → (l.take (k + 1)).findSome? (artHit s (wordN s) (cutR s 2).length) = none) := by
  have ht : l.take (k + 1) = l.take k ++ [a] := by
    obtain ⟨h1, h2⟩ := List.getElem?_eq_some_iff.1 h
    rw [List.take_succ_eq_append_getElem h1, h2]
  have hl : l = l.take k ++ a :: l.drop (k + 1) := by
    obtain ⟨h1, h2⟩ := List.getElem?_eq_some_iff.1 h
    rw [← h2, ← List.drop_eq_getElem_cons h1, List.take_append_drop]
  refine ⟨fun v hv => ?_, fun hv => ?_⟩
  · unfold hitsN
    rw [hl, List.findSome?_append, hp, List.findSome?_cons, hv]
    rfl
  · rw [ht, List.findSome?_append, hp, List.findSome?_cons, hv]
    rfl
theorem hits_none {s : List UInt8} {l : List (List UInt8)} (h : l.findSome? (artHit s (wordN s) (cutR s 2).length) = none) : hitsN s l = (0, 0) := by
  unfold hitsN
  rw [h]
  rfl

end Go.Proofs.YtmgofhbdaopapaaGreatDoor

namespace Go.Proofs.YtmgofhbdaopapaaGreatDoor
open Go.RowKit

set_option maxRecDepth 20000 in
set_option maxHeartbeats 3200000 in
theorem refSpaces_any (s : List UInt8) (k : Nat) (w : World) (hk : k ≤ s.length) (hs : s.length ≤ 1000000) :
    Calls Tryz.prog 33 #[.string (str s), .int .i64 (k : Int)] w fun e w' => e = .returned (.int .i64 (spN s k : Int)) ∧ Below w.heap.size w w' := by
  obtain ⟨R, hR⟩ : ∃ R, spN s k = R := ⟨_, rfl⟩
  rw [hR]
  have HR := Lib.hid hR
  have hsz : (str s).size = s.length := rfl
  clear hR
  go_enter Tryz.func33, Tryz.ntmps33
  go_wp2
  go_loopw [1] (fun i wr => ∃ j : Nat, j ≤ s.length ∧ i = .int .i64 (j : Int) ∧ Hid (spN s j = R) ∧ Below w.heap.size w wr) (fun i _ => s.length - (intOf i).toNat)
  case atStart => exact ⟨k, hk, rfl, HR, Below.refl _ _⟩
  case round =>
    obtain ⟨j, hj, rfl, HJ, hb⟩ := hrel
    by_cases hlt : j < s.length
    · have i1 : decide ((j : Int) < (s.length : Int)) = true := decide_eq_true (by omega)
      have i1n : decide (j < s.length) = true := decide_eq_true hlt
      have iz : (j : Int) < (s.length : Int) := by omega
      have hkl : j < (str s).size := hlt
      have hat := str_at s j hkl
      obtain ⟨b, hbb⟩ : ∃ b, (str s)[j] = b := ⟨_, rfl⟩
      rw [hbb] at hat
      by_cases h32 : b = 32
      · have t1 : (((str s)[j].toNat : Int) == 32) = true := by rw [hbb, h32]; rfl
        have HJ2 : Hid (spN s (j + 1) = R) := Lib.hid (by rw [sp_yes (by rw [hat, h32])]; exact HJ.out)
        clear hat hbb h32
        go_wp2
        go_roundw
        case rel => exact ⟨j + 1, by omega, by go_num, HJ2, hb⟩
        case measure => simp [intOf]; omega
      · have t1 : (((str s)[j].toNat : Int) == 32) = false := eqb_false (fun e => h32 (by rw [← hbb]; exact UInt8.toNat_inj.1 (by simpa using Int.ofNat.inj e)))
        have HE : Hid (R = j) := Lib.hid (by rw [← HJ.out]; exact sp_no hat h32)
        clear hat hbb h32
        go_wp2
        go_ret
        rw [HE.out]
        exact ⟨rfl, hb⟩
    · obtain rfl : j = s.length := by omega
      have i1 : decide ((s.length : Int) < (s.length : Int)) = false := by simp
      have HE : Hid (R = s.length) := Lib.hid (by rw [← HJ.out]; exact sp_end (Nat.le_refl _))
      go_wp2
      go_ret
      rw [HE.out]
      exact ⟨rfl, hb⟩

end Go.Proofs.YtmgofhbdaopapaaGreatDoor
