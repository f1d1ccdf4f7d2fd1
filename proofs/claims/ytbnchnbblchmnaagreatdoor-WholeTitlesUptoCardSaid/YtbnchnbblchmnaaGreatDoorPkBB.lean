/-
  The program's Ordered, Join.
  Sorting and leaving out what stands twice is the ascending list of all, as plain mathematics.
  The program's Find: a row of integers, sorted, without what stands twice.
  Words as keys of a map of the call's own.
-/
import Derived.Test.YtbnchnbblchmnaaGreatDoorPkAY
import Derived.Test.YtbnchnbblchmnaaGreatDoorPkAL
import Derived.Test.YtbnchnbblchmnaaGreatDoorPkAO
import Derived.Test.YtbnchnbblchmnaaGreatDoorPkAM
import Derived.Lib.SlicesCompact
import Derived.Test.YtbnchnbblchmnaaGreatDoorLay10
import Derived.DeepKeys4
import Derived.Maps.OwnSet
namespace Go.Proofs.YtbnchnbblchmnaaGreatDoor
open Go.RowKit

theorem castO_len (l : List WordL) : (castW l).length = l.length := by unfold castW; rw [List.length_map]
theorem cast_get {l : List WordL} {k : Nat} {x : WordL} (h : l[k]? = some x) : (castW l)[k]? = some (x.1, (x.2 : Int)) := by
  unfold castW
  rw [List.getElem?_map, h]
  rfl
set_option maxRecDepth 20000 in
set_option maxHeartbeats 3200000 in
theorem prOrdered_any (A : Option Addr) (n c : Nat) (l : List WordL) (w : World) (hA : SArr 2 wv w w.heap.size (.slice A n c) (castW l)) (hn : n ≤ 10000000) (hl : OrdP l) :
    Calls Tryz.prog 25 #[.slice A n c] w fun e w' => e = .returned (.bool true) ∧ Below w.heap.size w w' := by
  have hlen : l.length = n := by have := hA.len; rwa [castO_len] at this
  have HA := Lib.hid hA
  have HL := Lib.hid hl
  have HN := Lib.hid hlen
  clear hA hl hlen
  go_enter Tryz.func25, Tryz.ntmps25
  go_wp2
  go_loopw [3, 8] (fun s3 s8 wr => ∃ (k : Nat) (z : Int), s8 = .int .i64 (k : Int) ∧ s3 = .int .i64 z ∧ k ≤ n ∧ Hid (∀ x, l[k]? = some x → z < (x.2 : Int)) ∧ Below w.heap.size w wr) (fun _ s8 _ => n - (intOf s8).toNat)
  case atStart => exact ⟨0, -1, rfl, rfl, Nat.zero_le _, Lib.hid (fun x _ => by omega), Below.refl _ _⟩
  case round =>
    obtain ⟨k, z, rfl, rfl, hk, hz, hb⟩ := hrel
    have hk0 : (0 : Int) ≤ (k : Int) := by omega
    by_cases hkn : k < n
    · have hkz : (k : Int) < (n : Int) := by omega
      obtain ⟨x, hx⟩ : ∃ x, l[k]? = some x := ⟨_, List.getElem?_eq_getElem (by have := HN.out; omega)⟩
      obtain ⟨b0, o0, rfl, hB0, hc0⟩ := words_cells HA.out (by omega)
      have d0 : wr.cell? ⟨b0, o0 + k * 2, none⟩ = some (.string (str x.1)) := (hb.cell (p := ⟨b0, o0 + k * 2, none⟩) hB0).trans (hc0 k _ (cast_get hx)).1
      have d1 : wr.cell? ⟨b0, o0 + k * 2 + 1, none⟩ = some (.int .i64 (x.2 : Int)) := (hb.cell (p := ⟨b0, o0 + k * 2 + 1, none⟩) hB0).trans (hc0 k _ (cast_get hx)).2
      have hpos := hz.out x hx
      have hpos2 : ¬ ((x.2 : Int) ≤ z) := by omega
      have hne := HL.out.2 x (List.mem_of_getElem? hx)
      have e1 := strs_ne hne
      have e2 := strs_some hne
      have hnext : Hid (∀ y, l[k + 1]? = some y → (x.2 : Int) < (y.2 : Int)) := Lib.hid (fun y hy => by
        have h1 := List.pairwise_iff_getElem.1 HL.out.1 k (k + 1) (by have := (List.getElem?_eq_some_iff.1 hx).1; omega) (by have := (List.getElem?_eq_some_iff.1 hy).1; omega) (by omega)
        rw [(List.getElem?_eq_some_iff.1 hx).2, (List.getElem?_eq_some_iff.1 hy).2] at h1
        omega)
      clear hx hc0 hz hne
      go_wp2
      go_roundw
      case rel => exact ⟨k + 1, (x.2 : Int), by simp, rfl, by omega, hnext, hb.alloc hb.size _⟩
      case measure => simp [intOf]; omega
    · obtain rfl : k = n := by omega
      go_wp2
      go_ret
      exact ⟨rfl, hb⟩


/-- strings.Join over a list that is held. -/
theorem joinedT_any (v : Value) (xs : List (List UInt8)) (sep : List UInt8) (w : World) (h : Arr sv w w.heap.size v xs) (hn : xs.length ≤ 10000000) (hlen : (Lib.join xs sep).length ≤ 100000000) :
    Calls Tryz.prog 51 #[v, .string (str sep)] w fun e w' => e = .returned (.string (str (Lib.join xs sep))) ∧ Below w.heap.size w w' := by
  have hmap : (xs.map str).map (·.data.toList) = xs := by
    rw [List.map_map]
    conv => rhs; rw [← List.map_id xs]
    apply List.map_congr_left
    intro a _
    simp [str]
  have hsep : (str sep).data.toList = sep := by simp [str]
  rcases h with ⟨rfl, rfl⟩ | ⟨a, c, rfl, hc, hb, hcell⟩
  · have h1 := Any.strings_Join_none joinLays buildExtra6 none 0 (str sep) w
    have h2 : Calls Tryz.prog 51 #[.slice none 0 0, .string (str sep)] w _ := h1
    refine h2.mono ?_
    rintro e w' ⟨rfl, rfl⟩
    exact ⟨rfl, Below.refl _ _⟩
  · by_cases h0 : xs.length = 0
    · obtain rfl := List.length_eq_zero_iff.1 h0
      have h1 := Any.strings_Join_none joinLays buildExtra6 (some a) c (str sep) w
      have h2 : Calls Tryz.prog 51 #[.slice (some a) ([] : List (List UInt8)).length c, .string (str sep)] w _ := h1
      refine h2.mono ?_
      rintro e w' ⟨rfl, rfl⟩
      exact ⟨rfl, Below.refl _ _⟩
    · obtain ⟨bk, o, e1, hbk, hcs⟩ := Arr.some_ (val := sv) (w := w) (B := w.heap.size) (n := xs.length) (c := c) (A := some a) (xs := xs) (.inr ⟨a, c, rfl, hc, hb, hcell⟩) (by omega)
      injection e1 with e1
      subst e1
      have h1 := Any.strings_Join joinLays buildExtra6 bk o c (xs.map str) (str sep) w (fun j x hx => by
        rw [List.getElem?_map] at hx
        cases hj : xs[j]? with
        | none => rw [hj] at hx; cases hx
        | some y => rw [hj] at hx; obtain rfl := Option.some.inj hx; exact hcs j y hj) hbk (by rw [List.length_map]; omega) (by rw [List.length_map]; exact hc) (by rw [hmap, hsep]; omega)
      rw [hmap, hsep, List.length_map] at h1
      exact h1

theorem inter_join : ∀ xs : List (List UInt8), Lib.join xs [32] = joinG 32 xs
  | [] => rfl
  | [x] => by unfold Lib.join; simp [joinG]
  | x :: y :: l => by
    have ih := inter_join (y :: l)
    rw [joinG, ← ih]
    unfold Lib.join
    simp [List.intercalate]
def sv1 (s : List UInt8) : List Value := [sv s]
theorem sv1_len (s : List UInt8) : (sv1 s).length = 1 := rfl
theorem sv1_one (s : List UInt8) : ∀ u ∈ sv1 s, u.oneCell' = true := by
  intro u hu
  unfold sv1 at hu
  rw [List.mem_singleton.1 hu]; rfl
theorem flat_sv1 : ∀ xs : List (List UInt8), xs.flatMap sv1 = xs.map sv
  | [] => rfl
  | x :: xs => by rw [List.flatMap_cons, flat_sv1 xs]; rfl
theorem info_strO : (Tryz.prog.info? 9).map (fun i => (i.zero, i.size, i.bytes)) = some (some (.string ⟨#[]⟩), 1, 16) := by kernel_rfl

set_option maxRecDepth 20000 in
set_option maxHeartbeats 3200000 in
theorem prJoin_any (A : Option Addr) (n c : Nat) (l : List WordI) (w : World) (hA : SArr 2 wv w w.heap.size (.slice A n c) l) (hn : n ≤ 10000000) (hl : (joinI l).length ≤ 10000000) :
    Calls Tryz.prog 22 #[.slice A n c] w fun e w' => e = .returned (.string (str (joinI l))) ∧ Below w.heap.size w w' := by
  have hlen : l.length = n := hA.len
  have HA := Lib.hid hA
  have HL := Lib.hid hl
  have HN := Lib.hid hlen
  clear hA hl hlen
  go_enter Tryz.func22, Tryz.ntmps22
  go_wp2
  go_loopw [3, 8] (fun s3 s8 wr => ∃ (k : Nat), s8 = .int .i64 (k : Int) ∧ k ≤ n ∧ wr.ownsRow w.heap.size 9 1 s3 ((l.take k).map Prod.fst).length (((l.take k).map Prod.fst).flatMap sv1) ∧ Below w.heap.size w wr) (fun _ s8 _ => n - (intOf s8).toNat)
  case atStart => exact ⟨0, rfl, Nat.zero_le _, World.ownsRow_nil _ _ _ _, Below.refl _ _⟩
  case round =>
    obtain ⟨k, rfl, hk, hr, hb⟩ := hrel
    have hk0 : (0 : Int) ≤ (k : Int) := by omega
    by_cases hkn : k < n
    · have hkz : (k : Int) < (n : Int) := by omega
      obtain ⟨x, hx⟩ : ∃ x, l[k]? = some x := ⟨_, List.getElem?_eq_getElem (by have := HN.out; omega)⟩
      obtain ⟨b0, o0, rfl, hB0, hc0⟩ := words_cells HA.out (by omega)
      have d0 : wr.cell? ⟨b0, o0 + k * 2, none⟩ = some (.string (str x.1)) := (hb.cell (p := ⟨b0, o0 + k * 2, none⟩) hB0).trans (hc0 k x hx).1
      have d1 : wr.cell? ⟨b0, o0 + k * 2 + 1, none⟩ = some (.int .i64 x.2) := (hb.cell (p := ⟨b0, o0 + k * 2 + 1, none⟩) hB0).trans (hc0 k x hx).2
      have hnx : Hid ((l.take (k + 1)).map Prod.fst = (l.take k).map Prod.fst ++ [x.1]) := Lib.hid (by rw [take_next hx, List.map_append]; rfl)
      have hbs := hb.size
      obtain ⟨L, hL⟩ : ∃ L, (l.take k).map Prod.fst = L := ⟨_, rfl⟩
      have hLl : L.length ≤ 10000000 := by rw [← hL, List.length_map, List.length_take]; omega
      rw [hL] at hr hnx
      have hr1 := own_keep_below hr ((Below.refl _ wr).alloc (Nat.le_refl _) (.cells #[.string (str x.1), .int .i64 x.2] 32))
      have hb1 : Below w.heap.size w (wr.alloc (.cells #[.string (str x.1), .int .i64 x.2] 32)) := hb.alloc hbs _
      have HR := Lib.hid hr1
      clear hx hc0 hL hr hr1
      go_wp2_with (at_builtin; refine append_struct (val := sv1) 25 9 (.string ⟨#[]⟩) 16 Tryz.underlying25 info_strO rfl (by decide) (by decide) sv1_len sv1_one (wr.alloc (.cells #[.string (str x.1), .int .i64 x.2] 32)) rfl (.tmp 12) (.tmp 15) rfl w.heap.size u3 L rfl HR.out x.1 #[.string (str x.1)] rfl (wr.heap.size + 1) (World.size_alloc _ _) rfl (by omega) (Nat.le_trans hbs (by simp)) ?_; intro v' w' hown' hbw; have hb2 := hb1.trans hbw; have HO := Lib.hid hown'; clear hown' hbw)
      go_roundw
      case rel => exact ⟨k + 1, by simp, by omega, by rw [hnx.out]; exact HO.out, hb2⟩
      case measure => simp [intOf]; omega
    · obtain rfl : k = n := by omega
      have hfull : (l.take k).map Prod.fst = l.map Prod.fst := by rw [List.take_of_length_le (by have := HN.out; omega)]
      rw [hfull] at hr
      rw [flat_sv1] at hr
      have hArr : Arr sv wr wr.heap.size u3 (l.map Prod.fst) := Arr.of_own hr
      have HJ := Lib.hid (joinedT_any u3 (l.map Prod.fst) [32] wr hArr (by rw [List.length_map]; have := HN.out; omega) (by rw [inter_join]; have := HL.out; unfold joinI at this; omega))
      rw [inter_join] at HJ
      clear hfull hr hArr
      go_wp2_with fail
      refine HJ.out.mono ?_
      rintro e w2 ⟨rfl, k2⟩
      go_wp2
      go_ret
      exact ⟨rfl, below_next hb k2⟩

end Go.Proofs.YtbnchnbblchmnaaGreatDoor

namespace Go.Proofs.YtbnchnbblchmnaaGreatDoor

section
variable {α : Type} [LT α]
theorem asc_eq (hir : ∀ a : α, ¬ a < a) (htr : ∀ a b c : α, a < b → b < c → a < c) : ∀ a b : List α, a.Pairwise (· < ·) → b.Pairwise (· < ·) → (∀ x, x ∈ a ↔ x ∈ b) → a = b
  | [], [], _, _, _ => rfl
  | [], y :: b, _, _, h => by have := (h y).2 List.mem_cons_self; cases this
  | x :: a, [], _, _, h => by have := (h x).1 List.mem_cons_self; cases this
  | x :: a, y :: b, ha, hb, h => by
    obtain ⟨ha1, ha2⟩ := List.pairwise_cons.1 ha
    obtain ⟨hb1, hb2⟩ := List.pairwise_cons.1 hb
    have hxy : x = y := by
      rcases List.mem_cons.1 ((h x).1 List.mem_cons_self) with e | e
      · exact e
      · rcases List.mem_cons.1 ((h y).2 List.mem_cons_self) with e2 | e2
        · exact e2.symm
        · exact absurd (htr _ _ _ (ha1 y e2) (hb1 x e)) (hir x)
    subst hxy
    rw [asc_eq hir htr a b ha2 hb2 fun z => ?_]
    constructor
    · intro hz
      rcases List.mem_cons.1 ((h z).1 (List.mem_cons_of_mem _ hz)) with e | e
      · exact absurd (ha1 z hz) (by rw [e]; exact hir x)
      · exact e
    · intro hz
      rcases List.mem_cons.1 ((h z).2 (List.mem_cons_of_mem _ hz)) with e | e
      · exact absurd (hb1 z hz) (by rw [e]; exact hir x)
      · exact e
end

theorem compact_asc (d : Array Int) (hs : ∀ i j, i ≤ j → j < d.size → d[i]! ≤ d[j]!) : (Lib.compactUpTo d d.size).Pairwise (· < ·) := by
  unfold Lib.compactUpTo
  rw [List.pairwise_map]
  have h1 : ((List.range d.size).filter (Lib.keeps d)).Pairwise (· < ·) := List.Pairwise.filter _ List.pairwise_lt_range
  refine List.Pairwise.imp_of_mem ?_ h1
  intro i j hi hj hij
  have hj2 := List.mem_filter.1 hj
  have hjs : j < d.size := List.mem_range.1 hj2.1
  have hk := hj2.2
  unfold Lib.keeps at hk
  have hk2 : j = 0 ∨ d[j]! ≠ d[j - 1]! := of_decide_eq_true hk
  have h3 := hs i (j - 1) (by omega) (by omega)
  have h4 := hs (j - 1) j (by omega) hjs
  rcases hk2 with h | h
  · omega
  · omega
theorem compact_mem (d : Array Int) (x : Int) : x ∈ Lib.compactUpTo d d.size ↔ ∃ j, j < d.size ∧ d[j]! = x := by
  unfold Lib.compactUpTo
  constructor
  · intro h
    obtain ⟨j, hj, e⟩ := List.mem_map.1 h
    exact ⟨j, List.mem_range.1 (List.mem_filter.1 hj).1, e⟩
  · rintro ⟨j, hj, e⟩
    have key : ∀ j, j < d.size → d[j]! ∈ ((List.range d.size).filter (Lib.keeps d)).map (d[·]!) := by
      intro j
      induction j with
      | zero => intro hj; exact List.mem_map.2 ⟨0, List.mem_filter.2 ⟨List.mem_range.2 hj, Lib.keeps_lt_one d 0 (by omega)⟩, rfl⟩
      | succ j ih =>
        intro hj
        by_cases hk : Lib.keeps d (j + 1) = true
        · exact List.mem_map.2 ⟨j + 1, List.mem_filter.2 ⟨List.mem_range.2 hj, hk⟩, rfl⟩
        · have h1 := ih (by omega)
          unfold Lib.keeps at hk
          have h2 : d[j + 1]! = d[j]! := by
            by_cases he : d[j + 1]! = d[j]!
            · exact he
            · exact absurd (decide_eq_true (Or.inr (by simpa using he))) hk
          rw [h2]
          exact h1
    rw [← e]
    exact key j hj
theorem sort_compact (P : List Int) : Lib.compact (P.mergeSort fun x y => decide (x ≤ y)) = setA P := by
  have hle : (P.mergeSort fun x y => decide (x ≤ y)).Pairwise fun a b => a ≤ b := by
    have := List.pairwise_mergeSort (le := fun (x y : Int) => decide (x ≤ y)) (fun a b c h1 h2 => by simp at h1 h2 ⊢; omega) (fun a b => by simp; omega) P
    exact this.imp fun h => by simpa using h
  have hm : ∀ x, x ∈ (P.mergeSort fun x y => decide (x ≤ y)) ↔ x ∈ P := fun x => List.mem_mergeSort
  unfold Lib.compact
  generalize P.mergeSort (fun x y => decide (x ≤ y)) = L at hle hm ⊢
  have hsz : L.toArray.size = L.length := rfl
  have hget : ∀ (i : Nat) (hi : i < L.length), L.toArray[i]! = L[i] := fun i hi => by rw [getElem!_pos L.toArray i hi]; rfl
  refine asc_eq (fun a => Int.lt_irrefl a) (fun _ _ _ h k => Int.lt_trans h k) _ _ (compact_asc L.toArray fun i j hij hj => ?_) (set_asc (fun _ _ _ h k => Int.lt_trans h k) (fun a b h1 h2 => by omega) _) fun x => ?_
  · have hj' : j < L.length := hj
    rw [hget i (by omega), hget j hj']
    rcases Nat.lt_or_eq_of_le hij with h | h
    · exact List.pairwise_iff_getElem.1 hle i j (by omega) hj' h
    · subst h; exact Int.le_refl _
  · rw [← hsz, compact_mem, set_mem, ← hm x]
    constructor
    · rintro ⟨j, hj, e⟩
      have hj' : j < L.length := hj
      rw [hget j hj'] at e
      rw [← e]
      exact List.getElem_mem _
    · intro h
      obtain ⟨j, hj, e⟩ := List.getElem_of_mem h
      exact ⟨j, hj, by rw [hget j hj, e]⟩

end Go.Proofs.YtbnchnbblchmnaaGreatDoor

namespace Go.Proofs.YtbnchnbblchmnaaGreatDoor
open Go.RowKit
open Go.Sort hiding Below

/-! Rows that the library writes over. -/
theorem row_below {α : Type} [Inhabited α] {enc : α → Value} {B blk off q : Nat} {d : Array α} {a w : World} (h : Below B a w) (hB : B ≤ blk) : Below B a (putRow enc (Sort.ahead w q) blk off d) :=
  h.trans ⟨rfl, rfl, rfl, by rw [size_putRow]; exact Nat.le_refl _, fun k hk => by
    unfold putRow mapBlock
    simp only [Array.getElem?_modify]
    rw [if_neg (by omega)]
    rfl⟩
theorem row_grow {B : Nat} {a w : World} {os : Array Obj} (h : Below B a w) (hB : B ≤ w.heap.size) : Below B a (grow w os) :=
  h.trans ⟨rfl, rfl, rfl, by show w.heap.size ≤ (w.heap ++ os).size; rw [Array.size_append]; omega, fun k hk => Sort.heap_grow_old w os (by omega)⟩
theorem holds_own {w : World} {base e g n c : Nat} {P : List Int} (h : w.ownsRow base e 1 (.slice (some ⟨g, 0, none⟩) n c) P.length (P.map iv)) : Holds (Value.int .i64) w g 0 P.toArray ∧ base ≤ g ∧ g < w.heap.size ∧ P.length = n ∧ n ≤ c := by
  rcases h.2 with ⟨h1, _⟩ | ⟨g', cap, cur, h1, h2, h3, h4, h5, h6, h7⟩
  · cases h1
  · injection h1 with e1 e2 e3
    injection e1 with e1
    injection e1 with e1
    subst e1
    refine ⟨fun j hj => ?_, h2, (Array.getElem?_eq_some_iff.1 h3).1, e2.symm, by rw [e2, e3]; exact h4⟩
    have hj' : j < P.length := hj
    have hcj : cur[j]? = some (.int .i64 P.toArray[j]!) := by
      have h8 : (cur.toList.take (P.length * 1))[j]? = (P.map iv)[j]? := by rw [h7]
      rw [List.getElem?_take_of_lt (by omega), List.getElem?_map, List.getElem?_eq_getElem hj'] at h8
      rw [getElem!_pos P.toArray j hj]
      simpa [iv] using h8
    refine ⟨?_, ?_⟩
    · rw [Go.cell_of_row w g (0 + j) cur e (0, 0) h3, Nat.zero_add]; exact hcj
    · unfold World.frozen?
      simp [h3]
theorem arr_holds {w : World} {g : Nat} {P Q : List Int} {c : Nat} (h : Holds (Value.int .i64) w g 0 (P ++ Q).toArray) (hg : g < w.heap.size) (hc : P.length ≤ c) : Arr iv w w.heap.size (.slice (some ⟨g, 0, none⟩) P.length c) P := by
  refine .inr ⟨_, c, rfl, hc, fun _ => hg, fun i u hu => ?_⟩
  have hi := (List.getElem?_eq_some_iff.1 hu).1
  have h1 := (h i (by simp; omega)).1
  rw [Nat.zero_add] at h1
  rw [plain_add, h1, getElem!_pos (P ++ Q).toArray i (by simp; omega)]
  have e : (P ++ Q)[i]'(by simp; omega) = u := by
    rw [List.getElem_append_left hi]
    exact (List.getElem?_eq_some_iff.1 hu).2
  show some (Value.int .i64 ((P ++ Q)[i]'_)) = _
  rw [e]
  rfl
theorem holds_pre {α : Type} [Inhabited α] {enc : α → Value} {w : World} {g : Nat} {P Q : List α} (h : Holds enc w g 0 (P ++ Q).toArray) : Holds enc w g 0 P.toArray := fun j hj => by
  have hj' : j < P.length := hj
  have h1 := h j (by simp; omega)
  have e : (P ++ Q).toArray[j]! = P.toArray[j]! := by
    rw [getElem!_pos (P ++ Q).toArray j (by simp; omega), getElem!_pos P.toArray j hj]
    exact List.getElem_append_left hj'
  rw [e] at h1
  exact h1
theorem holds_arr {w : World} {g : Nat} {P : List Int} {c : Nat} (h : Holds (Value.int .i64) w g 0 P.toArray) (hg : g < w.heap.size) (hc : P.length ≤ c) : Arr iv w w.heap.size (.slice (some ⟨g, 0, none⟩) P.length c) P :=
  arr_holds (Q := []) (by rw [List.append_nil]; exact h) hg hc
theorem sortInts_any (g n c : Nat) (P : List Int) (B : Nat) (w0 w : World) (e : Nat) (h : w.ownsRow B e 1 (.slice (some ⟨g, 0, none⟩) n c) P.length (P.map iv)) (hb : Below B w0 w) (hB : B ≤ w.heap.size) (hP : P.length ≤ 1000000) :
    Calls Tryz.prog 28 #[.slice (some ⟨g, 0, none⟩) n c] w fun e w' => e = .returned (.tuple #[]) ∧ Holds (Value.int .i64) w' g 0 (P.mergeSort fun x y => decide (x ≤ y)).toArray ∧ Below B w0 w' ∧ g < w'.heap.size ∧ B ≤ g := by
  obtain ⟨h1, h2, h3, rfl, h5⟩ := holds_own h
  have h6 := AnyM.slices_Sort_int sortI g 0 c P w h1 h3 (by omega)
  have h7 : Calls Tryz.prog 28 #[.slice (some ⟨g, 0, none⟩) P.length c] w _ := h6
  refine h7.mono ?_
  rintro e w' ⟨rfl, q, os, rfl⟩
  have hsz : (putRow (Value.int .i64) (Sort.ahead w q) g 0 (P.mergeSort fun x y => decide (x ≤ y)).toArray).heap.size = w.heap.size := by rw [size_putRow]; rfl
  refine ⟨rfl, holds_grow _ _ _ _ _ _ (by rw [hsz]; exact h3) (holds_putRow _ _ _ _ _ _ (holds_ahead _ w q g 0 _ h1) (by simp)), row_grow (row_below hb h2) (by rw [hsz]; exact hB), ?_, h2⟩
  show g < (_ ++ os).size
  rw [Array.size_append]
  have : g < (putRow (Value.int .i64) (Sort.ahead w q) g 0 (P.mergeSort fun x y => decide (x ≤ y)).toArray).heap.size := by rw [hsz]; exact h3
  omega
theorem compactInts_any (g c : Nat) (P : List Int) (B : Nat) (w0 w : World) (h : Holds (Value.int .i64) w g 0 P.toArray) (hg : g < w.heap.size) (hBg : B ≤ g) (hb : Below B w0 w) (hc : P.length ≤ c) (hP : P.length ≤ 1000000) :
    Calls Tryz.prog 29 #[.slice (some ⟨g, 0, none⟩) P.length c] w fun e w' => e = .returned (.slice (some ⟨g, 0, none⟩) (Lib.compact P).length c) ∧ Holds (Value.int .i64) w' g 0 (Lib.compact P).toArray ∧ g < w'.heap.size ∧ (Lib.compact P).length ≤ c ∧ Below B w0 w' := by
  have h6 := Any.slices_Compact_int compactLays g 0 c P w h (by omega) hc
  have h7 : Calls Tryz.prog 29 #[.slice (some ⟨g, 0, none⟩) P.length c] w _ := h6
  refine h7.mono ?_
  rintro e w' ⟨rfl, q, rfl⟩
  have hle : (Lib.compact P).length ≤ P.length := by
    unfold Lib.compact Lib.compactUpTo
    rw [List.length_map]
    refine Nat.le_trans (List.length_filter_le _ _) ?_
    rw [List.length_range]
    exact Nat.le_refl _
  have hsz : (putRow (Value.int .i64) (Sort.ahead w q) g 0 (Lib.compact P ++ List.replicate (P.length - (Lib.compact P).length) 0).toArray).heap.size = w.heap.size := by rw [size_putRow]; rfl
  exact ⟨rfl, holds_pre (holds_putRow _ _ _ _ _ _ (holds_ahead _ w q g 0 _ h) (by simp; omega)), by rw [hsz]; exact hg, by omega, row_below hb hBg⟩

def iv1 (n : Int) : List Value := [iv n]
theorem iv1_len (n : Int) : (iv1 n).length = 1 := rfl
theorem iv1_one (n : Int) : ∀ u ∈ iv1 n, u.oneCell' = true := by
  intro u hu
  unfold iv1 at hu
  rw [List.mem_singleton.1 hu]; rfl
theorem flat_iv1 : ∀ xs : List Int, xs.flatMap iv1 = xs.map iv
  | [] => rfl
  | x :: xs => by rw [List.flatMap_cons, flat_iv1 xs]; rfl
theorem info_intO : (Tryz.prog.info? 3).map (fun i => (i.zero, i.size, i.bytes)) = some (some (.int .i64 0), 1, 8) := by kernel_rfl
theorem pos_snoc (l : List WordI) (t : List UInt8) (x : WordI) : posOf (l ++ [x]) t = posOf l t ++ (if x.1 = t then [x.2] else []) := by
  unfold posOf
  rw [List.filter_append, List.map_append]
  by_cases h : x.1 = t
  · rw [if_pos h, List.filter_cons_of_pos (by simpa using h)]; rfl
  · rw [if_neg h, List.filter_cons_of_neg (by simpa using h)]; rfl
theorem pos_len (l : List WordI) (t : List UInt8) : (posOf l t).length ≤ l.length := by
  unfold posOf
  rw [List.length_map]
  exact List.length_filter_le _ _

set_option maxRecDepth 20000 in
set_option maxHeartbeats 3200000 in
theorem prFind_row (A : Option Addr) (n c : Nat) (l : List WordI) (t : List UInt8) (w : World) (hA : SArr 2 wv w w.heap.size (.slice A n c) l) (hn : n ≤ 1000000) :
    Calls Tryz.prog 9 #[.slice A n c, .string (str t)] w fun e w' => ((e = .returned (.slice none 0 0) ∧ findI l t = []) ∨ (∃ g c, e = .returned (.slice (some ⟨g, 0, none⟩) (findI l t).length c) ∧ Holds (Value.int .i64) w' g 0 (findI l t).toArray ∧ g < w'.heap.size ∧ w.heap.size ≤ g ∧ (findI l t).length ≤ c)) ∧ Below w.heap.size w w' := by
  have hlen : l.length = n := hA.len
  have HA := Lib.hid hA
  have HN := Lib.hid hlen
  clear hA hlen
  go_enter Tryz.func9, Tryz.ntmps9
  go_wp2
  go_loopw [5, 10] (fun s5 s10 wr => ∃ (k : Nat), s10 = .int .i64 (k : Int) ∧ k ≤ n ∧ Hid (wr.ownsRow w.heap.size 3 1 s5 (posOf (l.take k) t).length ((posOf (l.take k) t).flatMap iv1)) ∧ Below w.heap.size w wr) (fun _ s10 _ => n - (intOf s10).toNat)
  case atStart => exact ⟨0, rfl, Nat.zero_le _, Lib.hid (World.ownsRow_nil _ _ _ _), Below.refl _ _⟩
  case round =>
    obtain ⟨k, rfl, hk, hr, hb⟩ := hrel
    have hk0 : (0 : Int) ≤ (k : Int) := by omega
    by_cases hkn : k < n
    · have hkz : (k : Int) < (n : Int) := by omega
      obtain ⟨x, hx⟩ : ∃ x, l[k]? = some x := ⟨_, List.getElem?_eq_getElem (by have := HN.out; omega)⟩
      obtain ⟨b0, o0, rfl, hB0, hc0⟩ := words_cells HA.out (by omega)
      have d0 : wr.cell? ⟨b0, o0 + k * 2, none⟩ = some (.string (str x.1)) := (hb.cell (p := ⟨b0, o0 + k * 2, none⟩) hB0).trans (hc0 k x hx).1
      have d1 : wr.cell? ⟨b0, o0 + k * 2 + 1, none⟩ = some (.int .i64 x.2) := (hb.cell (p := ⟨b0, o0 + k * 2 + 1, none⟩) hB0).trans (hc0 k x hx).2
      have hnx := pos_snoc (l.take k) t x
      rw [← take_next hx] at hnx
      have hbs := hb.size
      have hPl := pos_len (l.take k) t
      rw [List.length_take] at hPl
      obtain ⟨P, hP⟩ : ∃ P, posOf (l.take k) t = P := ⟨_, rfl⟩
      rw [hP] at hr hnx hPl
      have hr1 := own_keep_below hr.out ((Below.refl _ wr).alloc (Nat.le_refl _) (.cells #[.string (str x.1), .int .i64 x.2] 32))
      have hb1 : Below w.heap.size w (wr.alloc (.cells #[.string (str x.1), .int .i64 x.2] 32)) := hb.alloc hbs _
      have HR := Lib.hid hr1
      have hPl2 : P.length ≤ 1000000 := by omega
      by_cases ht : x.1 = t
      · rw [if_pos ht] at hnx
        have HNX := Lib.hid hnx
        have e1 : ((str x.1).toList == (str t).toList) = true := by rw [strs_beq, decide_eq_true ht]
        clear hx hc0 hP hr hr1 hnx ht hPl
        go_wp2_with (at_builtin; refine append_struct (val := iv1) 27 3 (.int .i64 0) 8 Tryz.underlying27 info_intO rfl (by decide) (by decide) iv1_len iv1_one (wr.alloc (.cells #[.string (str x.1), .int .i64 x.2] 32)) rfl (.tmp 18) (.tmp 21) rfl w.heap.size u5 P rfl HR.out x.2 #[.int .i64 x.2] rfl (wr.heap.size + 1) (World.size_alloc _ _) rfl (by omega) (Nat.le_trans hbs (by simp)) ?_; intro v' w' hown' hbw; have hb2 := hb1.trans hbw; have HO := Lib.hid hown'; clear hown' hbw)
        go_roundw
        case rel => exact ⟨k + 1, by simp, by omega, Lib.hid (by rw [HNX.out]; exact HO.out), hb2⟩
        case measure => simp [intOf]; omega
      · rw [if_neg ht, List.append_nil] at hnx
        have HNX := Lib.hid hnx
        have e1 : ((str x.1).toList == (str t).toList) = false := by rw [strs_beq, decide_eq_false ht]
        clear hx hc0 hP hr hr1 hnx ht hPl
        go_wp2
        go_roundw
        case rel => exact ⟨k + 1, by simp, by omega, Lib.hid (by rw [HNX.out]; exact HR.out), hb1⟩
        case measure => simp [intOf]; omega
    · obtain rfl : k = n := by omega
      have hfull : l.take k = l := List.take_of_length_le (by have := HN.out; omega)
      rw [hfull, flat_iv1] at hr
      have hPl := pos_len l t
      have hE : findI l t = Lib.compact ((posOf l t).mergeSort fun x y => decide (x ≤ y)) := (sort_compact _).symm
      have HE := Lib.hid hE
      have hP1 : (posOf l t).length ≤ 1000000 := by have := HN.out; omega
      obtain ⟨P, hP⟩ : ∃ P, posOf l t = P := ⟨_, rfl⟩
      rw [hP] at hr hP1 HE
      have hr0 := hr.out
      clear hE hP hPl hfull
      rcases hr0.2 with ⟨rfl, h0⟩ | ⟨g, cap, cur, rfl, _⟩
      · obtain rfl := List.length_eq_zero_iff.1 h0
        have HS := Lib.hid (AnyM.slices_Sort_int_none sortI none 0 wr)
        have HS2 : Hid (Calls Tryz.prog 28 #[.slice none 0 0] wr fun e w' => e = .returned (.tuple #[]) ∧ w' = wr) := HS
        have HC := Lib.hid (Any.slices_Compact_int_empty compactLays none 0 wr)
        have HC2 : Hid (Calls Tryz.prog 29 #[.slice none 0 0] wr fun e w' => e = .returned (.slice none 0 0) ∧ w' = wr) := HC
        have HF : Hid (findI l t = []) := Lib.hid (by rw [HE.out, List.mergeSort_nil]; rfl)
        clear hr0 h0 hr HS HC hP1
        go_wp2_with fail
        refine HS2.out.mono ?_
        rintro e w1 ⟨rfl, rfl⟩
        go_wp2_with fail
        refine HC2.out.mono ?_
        rintro e w1 ⟨rfl, rfl⟩
        go_wp2
        go_ret
        exact ⟨.inl ⟨rfl, HF.out⟩, hb⟩
      · have HS := Lib.hid (sortInts_any g P.length cap P w.heap.size w wr 3 hr0 hb hb.size hP1)
        obtain ⟨hh1, hh2, hh3, _, hh5⟩ := holds_own hr0
        clear hr0 hr hh1 hh3
        go_wp2_with fail
        refine HS.out.mono ?_
        rintro e w1 ⟨rfl, h1, k1, hg1, hBg⟩
        have hml : (P.mergeSort fun x y => decide (x ≤ y)).length = P.length := List.length_mergeSort _
        have HC := Lib.hid (compactInts_any g cap (P.mergeSort fun x y => decide (x ≤ y)) w.heap.size w w1 h1 hg1 hBg k1 (by rw [hml]; exact hh5) (by rw [hml]; exact hP1))
        rw [hml, ← HE.out] at HC
        clear h1 hml
        go_wp2_with fail
        refine HC.out.mono ?_
        rintro e w2 ⟨rfl, hH, hg2, hc2, k2⟩
        have HAr := Lib.hid hH
        have HC2 := Lib.hid hc2
        clear hH hc2
        go_wp2
        go_ret
        exact ⟨.inr ⟨g, cap, rfl, HAr.out, hg2, hBg, HC2.out⟩, k2⟩

theorem prFind_any (A : Option Addr) (n c : Nat) (l : List WordI) (t : List UInt8) (w : World) (hA : SArr 2 wv w w.heap.size (.slice A n c) l) (hn : n ≤ 1000000) :
    Calls Tryz.prog 9 #[.slice A n c, .string (str t)] w fun e w' => ∃ A n c, e = .returned (.slice A n c) ∧ Arr iv w' w'.heap.size (.slice A n c) (findI l t) ∧ Below w.heap.size w w' := by
  refine (prFind_row A n c l t w hA hn).mono ?_
  rintro e w' ⟨⟨rfl, hf⟩ | ⟨g, c2, rfl, h1, h2, h3, h4⟩, hb⟩
  · exact ⟨_, _, _, rfl, by rw [hf]; exact Arr.nil_ _ _, hb⟩
  · exact ⟨_, _, _, rfl, holds_arr h1 h2 h4, hb⟩

end Go.Proofs.YtbnchnbblchmnaaGreatDoor

namespace Go.Proofs.YtbnchnbblchmnaaGreatDoor
open Go.RowKit Go.Maps

theorem word_laid : laidOutB Tryz.prog = true := by kernel_rfl
theorem word_row : (32 : TypeId) < Tryz.prog.types.size := of_decide_eq_true (by kernel_rfl)
theorem word_wide : (match Tryz.prog.underlying 32 with | some (.array _ _) | some (.struct _) => true | _ => false) = true := by kernel_rfl
theorem word_deep : Tryz.prog.keyTypeAt 2 32 = true := by kernel_rfl
theorem word_keyed : Keyed Tryz.prog 32 := Keyed.of_law (deep_law_laid word_laid (m := 2) (by omega) word_row word_deep (by kernel_rfl))
theorem word_keyType : Tryz.prog.keyType 32 = true := by kernel_rfl
theorem word_cells : Tryz.prog.cellsOf 32 = 2 := by kernel_rfl
theorem string_cells : Tryz.prog.cellsOf 9 = 1 := by kernel_rfl
theorem int_cells : Tryz.prog.cellsOf 3 = 1 := by kernel_rfl
theorem keyLits_string (d : Nat) (b : ByteArray) (hs : b.size ≤ maxLen) : Tryz.prog.keyLits (d + 1) 9 [.string b] = some [.string b.data.toList] := by
  rw [Program.keyLits.eq_def]
  simp only [Tryz.underlying9, if_pos hs]
theorem keyLits_int (d : Nat) (n : Int) (hw : (Lit.int .i64 n).wf = true) : Tryz.prog.keyLits (d + 1) 3 [.int .i64 n] = some [.int .i64 n] := by
  rw [Program.keyLits.eq_def]
  simp only [Tryz.underlying3, hw, and_self, if_true]
theorem keyLits_word (d : Nat) (b : ByteArray) (n : Int) (hs : b.size ≤ maxLen) (hw : (Lit.int .i64 n).wf = true) :
    Tryz.prog.keyLits (d + 1 + 1) 32 [.string b, .int .i64 n] = some [.string b.data.toList, .int .i64 n] := by
  have h1 := keyLits_string d b hs
  have h2 := keyLits_int d n hw
  rw [Program.keyLits.eq_def]
  simp only [Tryz.underlying32, word_cells, List.length_cons, List.length_nil]
  rw [if_pos ⟨trivial, by kernel_rfl⟩]
  simp only [List.mapM_cons, List.mapM_nil, string_cells, int_cells, List.drop_zero, List.drop_succ_cons, List.take_succ_cons, List.take_zero, h1, h2]
  rfl
/-- What a word reads as. -/
def keyW (x : WordI) : Lit := .string (keyBytes [.string x.1, .int .i64 x.2])
theorem word_formed (a b : Value) : (Value.agg #[a, b]).formed Tryz.prog 32 = true := by
  unfold Value.formed
  simp only [Tryz.underlying32, word_cells]
  rfl
theorem keyOf_word (x : WordI) (h1 : x.1.length ≤ maxLen) (h2 : -9223372036854775808 ≤ x.2) (h3 : x.2 ≤ 9223372036854775807) :
    keyOf Tryz.prog 32 (.agg #[.string (str x.1), .int .i64 x.2]) = some (keyW x) := by
  have hs : (str x.1).size ≤ maxLen := by rw [str_size]; exact h1
  have hw : (Lit.int .i64 x.2).wf = true := WalkArith.wf_i64 ⟨h2, h3⟩
  obtain ⟨d, hd⟩ : ∃ d, Tryz.prog.types.size + 1 = d + 1 + 1 := by
    have h9 := word_row
    exact ⟨Tryz.prog.types.size - 1, by
      have h8 : 0 < Tryz.prog.types.size := Nat.lt_of_le_of_lt (Nat.zero_le _) h9
      rw [Nat.sub_add_cancel h8]⟩
  have hk := keyLits_word d (str x.1) x.2 hs hw
  unfold keyOf
  simp only [Tryz.underlying32, word_keyType, word_formed, Bool.and_self, if_true]
  rw [hd]
  show Option.map _ (Tryz.prog.keyLits (d + 1 + 1) 32 [.string (str x.1), .int .i64 x.2]) = _
  rw [hk]
  have e : (str x.1).data.toList = x.1 := by simp [str]
  rw [e]
  rfl
theorem keyW_inj {x y : WordI} (hx : x.1.length ≤ maxLen ∧ -9223372036854775808 ≤ x.2 ∧ x.2 ≤ 9223372036854775807) (hy : y.1.length ≤ maxLen ∧ -9223372036854775808 ≤ y.2 ∧ y.2 ≤ 9223372036854775807) (h : keyW x = keyW y) : x = y := by
  have h1 := keyOf_word x hx.1 hx.2.1 hx.2.2
  have h2 := keyOf_word y hy.1 hy.2.1 hy.2.2
  rw [h] at h1
  have h3 := word_keyed.inj h1 h2
  have h4 : [Value.string (str x.1), Value.int .i64 x.2] = [Value.string (str y.1), Value.int .i64 y.2] := congrArg Array.toList (Value.agg.inj h3)
  obtain ⟨h5, h6⟩ := List.cons.inj h4
  have h7 := congrArg ByteArray.toList (Value.string.inj h5)
  rw [str_toList, str_toList] at h7
  exact Prod.ext h7 (Value.int.inj (List.cons.inj h6).1).2

end Go.Proofs.YtbnchnbblchmnaaGreatDoor
