/-
  The contract of the statement's own function same: a call returns the same from both readers, and leaves them at the same place.
-/
import Derived.Test.YtefonoaffeahjaaRefL2
import Derived.Deep.RegionHeld3
namespace Go.Proofs.Ytefonoaffeahjaa
open Go.RowKit

section
variable {α : Type}
def nxtAt (len at_ : Nat) : Bool → Option (α × List UInt8) → Nat
  | false, some (_, r) => len - r.length
  | _, _ => at_
def nxtF : Bool → Option (α × List UInt8) → Bool
  | false, some _ => false
  | _, _ => true
def got : Bool → Option (α × List UInt8) → Option α
  | false, some (x, _) => some x
  | _, _ => none
def Val (val : World → α → Value → Prop) (zero : Value) (w : World) : Option α → Value → Prop
  | some x, y => val w x y
  | none, y => y = zero

theorem ReadEnd.out {val : World → α → Value → Prop} {zero : Value} {w w' : World} {g at_ : Nat} {bs : List UInt8} {f : Bool} {o : Option (α × List UInt8)} {e : Ending}
    (h : ReadEnd val zero w g (bs.drop at_) f o e w') (ho : ∀ x r, o = some (x, r) → r = bs.drop (bs.length - r.length)) :
    ∃ y, e = .returned y ∧ w.grownBy w' (some g) ∧ Val val zero w' (got f o) y ∧ Rdr w' g (bs.drop (nxtAt bs.length at_ f o)) (nxtF f o) := by
  obtain ⟨hg, h⟩ := h
  cases f with
  | true => cases o <;> exact ⟨_, h.1, hg, rfl, h.2⟩
  | false =>
    cases o with
    | none => exact ⟨_, h.1, hg, rfl, h.2⟩
    | some p =>
      obtain ⟨y, e1, e2, e3⟩ := h
      refine ⟨y, e1, hg, e2, ?_⟩
      have := ho p.1 p.2 rfl
      unfold nxtAt nxtF
      simp only
      rw [← this]
      exact e3

theorem RefEnd.out {val : World → α → Value → Prop} {zero : Value} {w w' : World} {g B at_ : Nat} {bs : List UInt8} {f : Bool} {o : Option (α × List UInt8)} {e : Ending}
    (h : RefEnd val zero w g B bs at_ f o e w') : ∃ y, e = .returned y ∧ w.grownBy w' (some g) ∧ Val val zero w' (got f o) y ∧ RRd w' g B bs (nxtAt bs.length at_ f o) (nxtF f o) := by
  obtain ⟨hg, h⟩ := h
  cases f with
  | true => cases o <;> exact ⟨_, h.1, hg, rfl, h.2⟩
  | false =>
    cases o with
    | none => exact ⟨_, h.1, hg, rfl, h.2⟩
    | some p =>
      obtain ⟨y, e1, e2, e3⟩ := h
      exact ⟨y, e1, hg, e2, e3⟩
end

theorem RRd.other {w w' : World} {g g' B at_ : Nat} {bs : List UInt8} {f : Bool} (h : RRd w g' B bs at_ f) (hg : w.grownBy w' (some g)) (hne : g' ≠ g) (hB : B ≤ g) : RRd w' g' B bs at_ f := by
  obtain ⟨v, hb, hs, ha, hB'⟩ := h
  exact ⟨v, hb.grown hg (by intro e; injection e with e; exact hne e), hs.grown hg (by have := hb.lt; omega) (by intro k e; injection e with e; omega), ha, hB'⟩

theorem Rdr.older {w w' : World} {g g' : Nat} {bs : List UInt8} {f : Bool} (h : Rdr w g bs f) (hg : w.grownBy w' (some g')) (hlt : g < g') : Rdr w' g bs f := by
  obtain ⟨v, hb, hs⟩ := h
  exact ⟨v, hb.grown hg (by intro e; injection e with e; omega), hs.grown hg (by have := hb.lt; omega) (by intro k e; injection e with e; omega)⟩

/-- What same does. -/
def SameEnd (w : World) (g g' B base : Nat) (bs : List UInt8) (e : Ending) (w' : World) : Prop :=
  e = .returned (.bool true) ∧ Below base w w' ∧ ∃ at' f', Rdr w' g (bs.drop at') f' ∧ RRd w' g' B bs at' f'

theorem same_end {w wI wJ w' : World} {g g' B base at' : Nat} {bs : List UInt8} {f' : Bool} (hb : Below base w wI) (hJ : wI.grownBy wJ (some g')) (hr : Rdr wI g (bs.drop at') f') (hs : RRd wJ g' B bs at' f')
    (hgg : g < g') (hbg : base ≤ g') (hb0 : base ≤ w.heap.size) (hw : wJ.grownBy w' none) : SameEnd w g g' B base bs (.returned (.bool true)) w' := by
  refine ⟨rfl, ?_, at', f', (hr.older hJ hgg).grown hw, hs.grown hw⟩
  exact below_grown (below_grown hb hJ hb0 (by intro k e; injection e with e; omega)) hw hb0 (by simp)

theorem val_int {w w' : World} {o : Option Int} {y y' : Value} (h : Val (fun _ => isInt) (.int .i64 0) w o y) (h' : Val (fun _ => isInt) (.int .i64 0) w' o y') : ∃ n, y = .int .i64 n ∧ y' = .int .i64 n := by
  cases o with
  | none => exact ⟨_, h, h'⟩
  | some x => exact ⟨_, h, h'⟩
theorem val_bool {w w' : World} {o : Option Int} {y y' : Value} (h : Val (fun _ => isB) (.bool false) w o y) (h' : Val (fun _ => isB) (.bool false) w' o y') : ∃ n, y = .bool n ∧ y' = .bool n := by
  cases o with
  | none => exact ⟨_, h, h'⟩
  | some x => exact ⟨_, h, h'⟩
theorem val_text {w w' : World} {o : Option (List UInt8)} {y y' : Value} (h : Val (fun _ => isText) (.string (str [])) w o y) (h' : Val (fun _ => isText) (.string (str [])) w' o y') : ∃ n, y = .string n ∧ y' = .string n := by
  cases o with
  | none => exact ⟨_, h, h'⟩
  | some x => exact ⟨_, h, h'⟩

theorem own_len {w : World} {base T n : Nat} {v : Value} {xs : List Value} (h : w.ownsRow base T 1 v n xs) : n ≤ 9223372036854775807 := by
  rcases h.2 with ⟨_, h0⟩ | ⟨g, cap, cur, _, _, _, h1, h2, _⟩
  · omega
  · unfold maxLen at h2; omega

theorem val_row {α : Type} {val : α → Value} {T : TypeId} {b b' g' : Nat} {wI wJ : World} {o : Option (List α)} {y y' : Value} (h : Val (isRow T val b) (.slice none 0 0) wI o y) (h' : Val (isRow T val b') (.slice none 0 0) wJ o y') (hg : wI.grownBy wJ (some g')) (hlt : g' < b) :
    ∃ xs, Arr val wJ wJ.heap.size y xs ∧ Arr val wJ wJ.heap.size y' xs ∧ xs.length ≤ 9223372036854775807 := by
  cases o with
  | none =>
    have e1 : y = .slice none 0 0 := h
    have e2 : y' = .slice none 0 0 := h'
    exact ⟨[], .inl ⟨e1, rfl⟩, .inl ⟨e2, rfl⟩, by simp⟩
  | some xs =>
    have h1 : wI.ownsRow b T 1 y xs.length (xs.map val) := h
    have h2 : wJ.ownsRow b' T 1 y' xs.length (xs.map val) := h'
    exact ⟨xs, Arr.of_own (own_past h1 hg hlt), Arr.of_own h2, own_len h2⟩

theorem decList_suffix {α : Type} {el : List UInt8 → Option (α × List UInt8)} (hel : ∀ bs x r, el bs = some (x, r) → ∃ k, r = bs.drop k) {mx : Int} {bs r : List UInt8} {xs : List α} {at_ : Nat} (h : decList el mx (bs.drop at_) = some (xs, r)) : r = bs.drop (bs.length - r.length) := by
  unfold decList at h
  cases hd : decI 0 mx (bs.drop at_) with
  | none => rw [hd] at h; cases h
  | some p =>
    rw [hd] at h
    simp only at h
    obtain ⟨k1, e1⟩ := decI_suffix _ _ _ hd
    obtain ⟨k2, e2⟩ := decN_suffix hel _ _ _ _ h
    rw [e1, List.drop_drop, List.drop_drop] at e2
    exact (suffix_at e2).1

theorem decT_rest {bs r : List UInt8} {at_ : Nat} {mx : Int} {x : List UInt8} (h : decT mx (bs.drop at_) = some (x, r)) : r = bs.drop (bs.length - r.length) := by
  obtain ⟨k, e⟩ := decT_suffix _ _ _ h
  rw [List.drop_drop] at e
  exact (suffix_at e).1

set_option maxHeartbeats 800000 in
theorem method_Bool (g : Nat) (bs : List UInt8) (f : Bool) (w : World) (h : Rdr w g bs f) (hlen : bs.length ≤ 1000000000000) :
    Calls Try.prog 28 #[.pointer (some ⟨g, 0, none⟩)] w (ReadEnd (fun _ => isB) (.bool false) w g bs f (decI 0 1 bs)) := by
  obtain ⟨o, ho⟩ : ∃ o, decI 0 1 bs = o := ⟨_, rfl⟩
  rw [ho]
  have HO := Lib.hid ho
  clear ho
  go_enter Try.func28, Try.ntmps28
  go_wp2_with fail
  refine (intFrom_dec 0 1 w).mono ?_
  rintro e w1 ⟨fv, rfl, ⟨e1, e2, rfl, c1, c2⟩, hg⟩
  have h2 := h.grown hg
  go_wp2_with fail
  cases f with
  | true =>
    refine (readInt_failed g bs _ _ h2).mono ?_
    rintro e w2 ⟨rfl, rfl⟩
    go_wp2
    go_ret
    exact ⟨grown_any _ hg, by cases o <;> exact ⟨rfl, h2⟩⟩
  | false =>
    refine (readInt_any g _ _ bs 0 1 _ h2 hlen c1 c2).mono ?_
    intro e w2 he
    rw [HO.out] at he
    obtain ⟨hg2, he⟩ := he
    cases o with
    | none =>
      obtain ⟨rfl, hr⟩ := he
      go_wp2
      go_ret
      exact ⟨grown_trans (grown_any _ hg) hg2, rfl, hr⟩
    | some p =>
      obtain ⟨n, r⟩ := p
      obtain ⟨y, rfl, rfl, hr⟩ := he
      go_wp2
      go_ret
      exact ⟨grown_trans (grown_any _ hg) hg2, _, rfl, rfl, hr⟩

set_option maxHeartbeats 1600000 in
set_option maxRecDepth 100000 in
theorem same_int (g g' B base at_ : Nat) (bs : List UInt8) (f : Bool) (mx lo hi : Int) (w : World) (hr : Rdr w g (bs.drop at_) f) (hs : RRd w g' B bs at_ f) (hgg : g < g') (hBb : B ≤ base) (hbg : base ≤ g) (hb0 : base ≤ w.heap.size) (hlen : bs.length ≤ 1000000000000) :
    Calls Try.prog 12 #[.pointer (some ⟨g, 0, none⟩), .pointer (some ⟨g', 0, none⟩), .agg #[.int .i64 0, .int .i64 mx, .int .i64 lo, .int .i64 hi]] w (SameEnd w g g' B base bs) := by
  have hg0 := World.grownBy_alloc w (.cells #[.int .i64 0, .int .i64 mx, .int .i64 lo, .int .i64 hi] 33) none
  have hbx := Box.made w 33 #[.int .i64 0, .int .i64 mx, .int .i64 lo, .int .i64 hi]
  have hr0 := hr.grown hg0
  have hs0 := hs.grown hg0
  have hbel0 : Below base w (w.alloc (.cells #[.int .i64 0, .int .i64 mx, .int .i64 lo, .int .i64 hi] 33)) := (below_of_grown hg0).mono hb0
  have hlt := hr.lt
  have hlt' := hs.lt
  have hdl : (bs.drop at_).length ≤ 1000000000000 := by rw [List.length_drop]; omega
  have ha : at_ ≤ bs.length := by obtain ⟨_, _, _, ha, _⟩ := hs; exact ha
  have hsuf : ∀ x r, decI lo hi (bs.drop at_) = some (x, r) → r = bs.drop (bs.length - r.length) := fun x r h => (dec_rest ha h).1
  have HS := Lib.hid hsuf
  have nI : some w.heap.size ≠ some g := by intro e; injection e with e; omega
  have nJ : some w.heap.size ≠ some g' := by intro e; injection e with e; omega
  have hBg : B ≤ g := Nat.le_trans hBb hbg
  have hgne : g' ≠ g := by omega
  have c2 : (w.alloc (.cells #[.int .i64 0, .int .i64 mx, .int .i64 lo, .int .i64 hi] 33)).cell? ⟨w.heap.size, 2, none⟩ = some (.int .i64 lo) := (hbx.cell 2).trans rfl
  have c3 : (w.alloc (.cells #[.int .i64 0, .int .i64 mx, .int .i64 lo, .int .i64 hi] 33)).cell? ⟨w.heap.size, 3, none⟩ = some (.int .i64 hi) := (hbx.cell 3).trans rfl
  clear hsuf hg0 hbx hr hs ha
  go_enter Try.func12, Try.ntmps12
  go_wp2_with fail
  go_region_held3 (fun w' => w'.cell? ⟨w.heap.size, 2, none⟩ = some (.int .i64 lo) ∧ w'.cell? ⟨w.heap.size, 3, none⟩ = some (.int .i64 hi)) (first | exact ⟨c2, c3⟩ | exact ⟨hgJ.cell (hgI.cell c2 nI) nJ, hgJ.cell (hgI.cell c3 nI) nJ⟩ | exact ⟨hgI.cell c2 nI, hgI.cell c3 nI⟩) (first | (go_at_call 27; go_must (refine (method_int g _ f lo hi _ ?_ hdl).mono ?_); go_must (exact hr0); intro e wI he; obtain ⟨y1, rfl, hgI', hv1, hr1⟩ := he.out HS.out; have hgI : (w.alloc (.cells #[.int .i64 0, .int .i64 mx, .int .i64 lo, .int .i64 hi] 33)).grownBy wI (some g) := ⟨hgI'.os, hgI'.tape, hgI'.output, hgI'.size, hgI'.block⟩; have hs1 := hs0.other hgI hgne hBg) | (go_at_call 32; go_must (refine (refInt_any g' B at_ bs f lo hi _ ?_ hlen).mono ?_); go_must (exact hs1); intro e wJ he; obtain ⟨y2, rfl, hgJ', hv2, hr2⟩ := he.out; have hgJ : wI.grownBy wJ (some g') := ⟨hgJ'.os, hgJ'.tape, hgJ'.output, hgJ'.size, hgJ'.block⟩; obtain ⟨nn, rfl, rfl⟩ := val_int hv1 hv2))
  go_wp2_with fail
  go_ret
  have hbI := below_grown hbel0 hgI hb0 (by intro k e; injection e with e; omega)
  exact same_end hbI (wJ := wJ) hgJ hr1 hr2 hgg (by omega) hb0 ⟨rfl, rfl, rfl, Nat.le_refl _, fun _ _ _ => rfl⟩

set_option maxHeartbeats 1600000 in
set_option maxRecDepth 100000 in
theorem same_bool (g g' B base at_ : Nat) (bs : List UInt8) (f : Bool) (mx lo hi : Int) (w : World) (hr : Rdr w g (bs.drop at_) f) (hs : RRd w g' B bs at_ f) (hgg : g < g') (hBb : B ≤ base) (hbg : base ≤ g) (hb0 : base ≤ w.heap.size) (hlen : bs.length ≤ 1000000000000) :
    Calls Try.prog 12 #[.pointer (some ⟨g, 0, none⟩), .pointer (some ⟨g', 0, none⟩), .agg #[.int .i64 1, .int .i64 mx, .int .i64 lo, .int .i64 hi]] w (SameEnd w g g' B base bs) := by
  have hg0 := World.grownBy_alloc w (.cells #[.int .i64 1, .int .i64 mx, .int .i64 lo, .int .i64 hi] 33) none
  have hbx := Box.made w 33 #[.int .i64 1, .int .i64 mx, .int .i64 lo, .int .i64 hi]
  have hr0 := hr.grown hg0
  have hs0 := hs.grown hg0
  have hbel0 : Below base w (w.alloc (.cells #[.int .i64 1, .int .i64 mx, .int .i64 lo, .int .i64 hi] 33)) := (below_of_grown hg0).mono hb0
  have hlt := hr.lt
  have hlt' := hs.lt
  have hdl : (bs.drop at_).length ≤ 1000000000000 := by rw [List.length_drop]; omega
  have ha : at_ ≤ bs.length := by obtain ⟨_, _, _, ha, _⟩ := hs; exact ha
  have hsuf : ∀ x r, decI 0 1 (bs.drop at_) = some (x, r) → r = bs.drop (bs.length - r.length) := fun x r h => (dec_rest ha h).1
  have HS := Lib.hid hsuf
  have nI : some w.heap.size ≠ some g := by intro e; injection e with e; omega
  have nJ : some w.heap.size ≠ some g' := by intro e; injection e with e; omega
  have hBg : B ≤ g := Nat.le_trans hBb hbg
  have hgne : g' ≠ g := by omega
  clear hsuf hg0 hbx hr hs ha
  go_enter Try.func12, Try.ntmps12
  go_wp2_with fail
  refine (method_Bool g _ f _ hr0 hdl).mono ?_
  intro e wI he
  obtain ⟨y1, rfl, hgI', hv1, hr1⟩ := he.out HS.out
  have hgI : (w.alloc (.cells #[.int .i64 1, .int .i64 mx, .int .i64 lo, .int .i64 hi] 33)).grownBy wI (some g) := ⟨hgI'.os, hgI'.tape, hgI'.output, hgI'.size, hgI'.block⟩
  have hs1 := hs0.other hgI hgne hBg
  go_wp2_with fail
  refine (refBool_any g' B at_ bs f _ hs1 hlen).mono ?_
  intro e wJ he
  obtain ⟨y2, rfl, hgJ', hv2, hr2⟩ := he.out
  have hgJ : wI.grownBy wJ (some g') := ⟨hgJ'.os, hgJ'.tape, hgJ'.output, hgJ'.size, hgJ'.block⟩
  obtain ⟨nn, rfl, rfl⟩ := val_bool hv1 hv2
  go_wp2_with fail
  go_ret
  have hbI := below_grown hbel0 hgI hb0 (by intro k e; injection e with e; omega)
  exact same_end hbI (wJ := wJ) hgJ hr1 hr2 hgg (by omega) hb0 ⟨rfl, rfl, rfl, Nat.le_refl _, fun _ _ _ => rfl⟩

set_option maxHeartbeats 1600000 in
set_option maxRecDepth 100000 in
theorem same_text (g g' B base at_ : Nat) (bs : List UInt8) (f : Bool) (mx lo hi : Int) (w : World) (hr : Rdr w g (bs.drop at_) f) (hs : RRd w g' B bs at_ f) (hgg : g < g') (hBb : B ≤ base) (hbg : base ≤ g) (hb0 : base ≤ w.heap.size) (hlen : bs.length ≤ 1000000000000) :
    Calls Try.prog 12 #[.pointer (some ⟨g, 0, none⟩), .pointer (some ⟨g', 0, none⟩), .agg #[.int .i64 2, .int .i64 mx, .int .i64 lo, .int .i64 hi]] w (SameEnd w g g' B base bs) := by
  have hg0 := World.grownBy_alloc w (.cells #[.int .i64 2, .int .i64 mx, .int .i64 lo, .int .i64 hi] 33) none
  have hbx := Box.made w 33 #[.int .i64 2, .int .i64 mx, .int .i64 lo, .int .i64 hi]
  have hr0 := hr.grown hg0
  have hs0 := hs.grown hg0
  have hbel0 : Below base w (w.alloc (.cells #[.int .i64 2, .int .i64 mx, .int .i64 lo, .int .i64 hi] 33)) := (below_of_grown hg0).mono hb0
  have hlt := hr.lt
  have hlt' := hs.lt
  have hdl : (bs.drop at_).length ≤ 1000000000000 := by rw [List.length_drop]; omega
  have ha : at_ ≤ bs.length := by obtain ⟨_, _, _, ha, _⟩ := hs; exact ha
  have hsuf : ∀ x r, decT mx (bs.drop at_) = some (x, r) → r = bs.drop (bs.length - r.length) := fun x r h => decT_rest h
  have HS := Lib.hid hsuf
  have nI : some w.heap.size ≠ some g := by intro e; injection e with e; omega
  have nJ : some w.heap.size ≠ some g' := by intro e; injection e with e; omega
  have hBg : B ≤ g := Nat.le_trans hBb hbg
  have hgne : g' ≠ g := by omega
  have c1 : (w.alloc (.cells #[.int .i64 2, .int .i64 mx, .int .i64 lo, .int .i64 hi] 33)).cell? ⟨w.heap.size, 1, none⟩ = some (.int .i64 mx) := (hbx.cell 1).trans rfl
  clear hsuf hg0 hbx hr hs ha
  go_enter Try.func12, Try.ntmps12
  go_wp2_with fail
  go_region_held3 (fun w' => w'.cell? ⟨w.heap.size, 1, none⟩ = some (.int .i64 mx)) (first | exact c1 | exact hgJ.cell (hgI.cell c1 nI) nJ | exact hgI.cell c1 nI) (first | (go_at_call 29; go_must (refine (method_Text g _ f mx _ ?_ hdl).mono ?_); go_must (exact hr0); intro e wI he; obtain ⟨y1, rfl, hgI', hv1, hr1⟩ := he.out HS.out; have hgI : (w.alloc (.cells #[.int .i64 2, .int .i64 mx, .int .i64 lo, .int .i64 hi] 33)).grownBy wI (some g) := ⟨hgI'.os, hgI'.tape, hgI'.output, hgI'.size, hgI'.block⟩; have hs1 := hs0.other hgI hgne hBg) | (go_at_call 34; go_must (refine (refText_any g' B at_ bs f mx _ ?_ hlen).mono ?_); go_must (exact hs1); intro e wJ he; obtain ⟨y2, rfl, hgJ', hv2, hr2⟩ := he.out; have hgJ : wI.grownBy wJ (some g') := ⟨hgJ'.os, hgJ'.tape, hgJ'.output, hgJ'.size, hgJ'.block⟩; obtain ⟨nn, rfl, rfl⟩ := val_text hv1 hv2))
  go_wp2_with fail
  go_ret
  have hbI := below_grown hbel0 hgI hb0 (by intro k e; injection e with e; omega)
  exact same_end hbI (wJ := wJ) hgJ hr1 hr2 hgg (by omega) hb0 ⟨rfl, rfl, rfl, Nat.le_refl _, fun _ _ _ => rfl⟩

set_option maxHeartbeats 1600000 in
set_option maxRecDepth 100000 in
theorem same_ints (g g' B base at_ : Nat) (bs : List UInt8) (f : Bool) (mx lo hi : Int) (w : World) (hr : Rdr w g (bs.drop at_) f) (hs : RRd w g' B bs at_ f) (hgg : g < g') (hBb : B ≤ base) (hbg : base ≤ g) (hb0 : base ≤ w.heap.size) (hlen : bs.length ≤ 1000000000000) :
    Calls Try.prog 12 #[.pointer (some ⟨g, 0, none⟩), .pointer (some ⟨g', 0, none⟩), .agg #[.int .i64 3, .int .i64 mx, .int .i64 lo, .int .i64 hi]] w (SameEnd w g g' B base bs) := by
  have hg0 := World.grownBy_alloc w (.cells #[.int .i64 3, .int .i64 mx, .int .i64 lo, .int .i64 hi] 33) none
  have hbx := Box.made w 33 #[.int .i64 3, .int .i64 mx, .int .i64 lo, .int .i64 hi]
  have hr0 := hr.grown hg0
  have hs0 := hs.grown hg0
  have hbel0 : Below base w (w.alloc (.cells #[.int .i64 3, .int .i64 mx, .int .i64 lo, .int .i64 hi] 33)) := (below_of_grown hg0).mono hb0
  have hlt := hr.lt
  have hlt' := hs.lt
  have hdl : (bs.drop at_).length ≤ 1000000000000 := by rw [List.length_drop]; omega
  have ha : at_ ≤ bs.length := by obtain ⟨_, _, _, ha, _⟩ := hs; exact ha
  have hsuf : ∀ x r, decList (decI lo hi) mx (bs.drop at_) = some (x, r) → r = bs.drop (bs.length - r.length) := fun x r h => decList_suffix decI_suffix h
  have HS := Lib.hid hsuf
  have nI : some w.heap.size ≠ some g := by intro e; injection e with e; omega
  have nJ : some w.heap.size ≠ some g' := by intro e; injection e with e; omega
  have hBg : B ≤ g := Nat.le_trans hBb hbg
  have hgne : g' ≠ g := by omega
  have c1 : (w.alloc (.cells #[.int .i64 3, .int .i64 mx, .int .i64 lo, .int .i64 hi] 33)).cell? ⟨w.heap.size, 1, none⟩ = some (.int .i64 mx) := (hbx.cell 1).trans rfl
  have c2 : (w.alloc (.cells #[.int .i64 3, .int .i64 mx, .int .i64 lo, .int .i64 hi] 33)).cell? ⟨w.heap.size, 2, none⟩ = some (.int .i64 lo) := (hbx.cell 2).trans rfl
  have c3 : (w.alloc (.cells #[.int .i64 3, .int .i64 mx, .int .i64 lo, .int .i64 hi] 33)).cell? ⟨w.heap.size, 3, none⟩ = some (.int .i64 hi) := (hbx.cell 3).trans rfl
  clear hsuf hg0 hbx hr hs ha
  go_enter Try.func12, Try.ntmps12
  go_wp2_with fail
  go_region_held3 (fun w' => w'.cell? ⟨w.heap.size, 1, none⟩ = some (.int .i64 mx) ∧ w'.cell? ⟨w.heap.size, 2, none⟩ = some (.int .i64 lo) ∧ w'.cell? ⟨w.heap.size, 3, none⟩ = some (.int .i64 hi)) (first | exact ⟨c1, c2, c3⟩ | exact ⟨hgJ.cell (hgI.cell c1 nI) nJ, hgJ.cell (hgI.cell c2 nI) nJ, hgJ.cell (hgI.cell c3 nI) nJ⟩ | exact ⟨hgI.cell c1 nI, hgI.cell c2 nI, hgI.cell c3 nI⟩ | exact ⟨(hgJ.cell (hgI.cell c1 nI) nJ), (hgJ.cell (hgI.cell c2 nI) nJ), (hgJ.cell (hgI.cell c3 nI) nJ)⟩) (first | (go_at_call 24; go_must (refine (method_Ints g _ f mx lo hi _ ?_ hdl).mono ?_); go_must (exact hr0); intro e wI he; obtain ⟨y1, rfl, hgI', hv1, hr1⟩ := he.out HS.out; have hgI : (w.alloc (.cells #[.int .i64 3, .int .i64 mx, .int .i64 lo, .int .i64 hi] 33)).grownBy wI (some g) := ⟨hgI'.os, hgI'.tape, hgI'.output, hgI'.size, hgI'.block⟩; have hs1 := hs0.other hgI hgne hBg) | (go_at_call 35; go_must (refine (refInts_any g' B at_ bs f mx lo hi _ ?_ hlen).mono ?_); go_must (exact hs1); intro e wJ he; obtain ⟨y2, rfl, hgJ', hv2, hr2⟩ := he.out; have hgJ : wI.grownBy wJ (some g') := ⟨hgJ'.os, hgJ'.tape, hgJ'.output, hgJ'.size, hgJ'.block⟩; obtain ⟨xs, ha1, ha2, hxl⟩ := val_row hv1 hv2 hgJ (by simp; omega)) | (go_at_call 23; go_must (refine (sameInts_eq _ _ xs wJ.heap.size wJ.heap.size _ ?_ ?_ hxl).mono ?_); go_must (exact ha1.keep fun _ _ => rfl); go_must (exact ha2.keep fun _ _ => rfl); rintro e wd ⟨rfl, q, rfl⟩))
  go_wp2_with fail
  go_ret
  have hbI := below_grown hbel0 hgI hb0 (by intro k e; injection e with e; omega)
  exact same_end hbI (wJ := wJ) hgJ hr1 hr2 hgg (by omega) hb0 ⟨rfl, rfl, rfl, Nat.le_refl _, fun _ _ _ => rfl⟩

set_option maxHeartbeats 1600000 in
set_option maxRecDepth 100000 in
theorem same_texts (g g' B base at_ : Nat) (bs : List UInt8) (f : Bool) (kk mx lo hi : Int) (w : World) (hr : Rdr w g (bs.drop at_) f) (hs : RRd w g' B bs at_ f) (hgg : g < g') (hBb : B ≤ base) (hbg : base ≤ g) (hb0 : base ≤ w.heap.size) (hlen : bs.length ≤ 1000000000000) (z0 : (kk == 0) = false) (z1 : (kk == 1) = false) (z2 : (kk == 2) = false) (z3 : (kk == 3) = false) :
    Calls Try.prog 12 #[.pointer (some ⟨g, 0, none⟩), .pointer (some ⟨g', 0, none⟩), .agg #[.int .i64 kk, .int .i64 mx, .int .i64 lo, .int .i64 hi]] w (SameEnd w g g' B base bs) := by
  have hg0 := World.grownBy_alloc w (.cells #[.int .i64 kk, .int .i64 mx, .int .i64 lo, .int .i64 hi] 33) none
  have hbx := Box.made w 33 #[.int .i64 kk, .int .i64 mx, .int .i64 lo, .int .i64 hi]
  have hr0 := hr.grown hg0
  have hs0 := hs.grown hg0
  have hbel0 : Below base w (w.alloc (.cells #[.int .i64 kk, .int .i64 mx, .int .i64 lo, .int .i64 hi] 33)) := (below_of_grown hg0).mono hb0
  have hlt := hr.lt
  have hlt' := hs.lt
  have hdl : (bs.drop at_).length ≤ 1000000000000 := by rw [List.length_drop]; omega
  have ha : at_ ≤ bs.length := by obtain ⟨_, _, _, ha, _⟩ := hs; exact ha
  have hsuf : ∀ x r, decList (decT hi) mx (bs.drop at_) = some (x, r) → r = bs.drop (bs.length - r.length) := fun x r h => decList_suffix decT_suffix h
  have HS := Lib.hid hsuf
  have nI : some w.heap.size ≠ some g := by intro e; injection e with e; omega
  have nJ : some w.heap.size ≠ some g' := by intro e; injection e with e; omega
  have hBg : B ≤ g := Nat.le_trans hBb hbg
  have hgne : g' ≠ g := by omega
  have c1 : (w.alloc (.cells #[.int .i64 kk, .int .i64 mx, .int .i64 lo, .int .i64 hi] 33)).cell? ⟨w.heap.size, 1, none⟩ = some (.int .i64 mx) := (hbx.cell 1).trans rfl
  have c3 : (w.alloc (.cells #[.int .i64 kk, .int .i64 mx, .int .i64 lo, .int .i64 hi] 33)).cell? ⟨w.heap.size, 3, none⟩ = some (.int .i64 hi) := (hbx.cell 3).trans rfl
  clear hsuf hg0 hbx hr hs ha
  go_enter Try.func12, Try.ntmps12
  go_wp2_with fail
  go_region_held3 (fun w' => w'.cell? ⟨w.heap.size, 1, none⟩ = some (.int .i64 mx) ∧ w'.cell? ⟨w.heap.size, 3, none⟩ = some (.int .i64 hi)) (first | exact ⟨c1, c3⟩ | exact ⟨hgJ.cell (hgI.cell c1 nI) nJ, hgJ.cell (hgI.cell c3 nI) nJ⟩ | exact ⟨hgI.cell c1 nI, hgI.cell c3 nI⟩ | exact ⟨(hgJ.cell (hgI.cell c1 nI) nJ), (hgJ.cell (hgI.cell c3 nI) nJ)⟩) (first | (go_at_call 26; go_must (refine (method_Texts g _ f mx hi _ ?_ hdl).mono ?_); go_must (exact hr0); intro e wI he; obtain ⟨y1, rfl, hgI', hv1, hr1⟩ := he.out HS.out; have hgI : (w.alloc (.cells #[.int .i64 kk, .int .i64 mx, .int .i64 lo, .int .i64 hi] 33)).grownBy wI (some g) := ⟨hgI'.os, hgI'.tape, hgI'.output, hgI'.size, hgI'.block⟩; have hs1 := hs0.other hgI hgne hBg) | (go_at_call 36; go_must (refine (refTexts_any g' B at_ bs f mx hi _ ?_ hlen).mono ?_); go_must (exact hs1); intro e wJ he; obtain ⟨y2, rfl, hgJ', hv2, hr2⟩ := he.out; have hgJ : wI.grownBy wJ (some g') := ⟨hgJ'.os, hgJ'.tape, hgJ'.output, hgJ'.size, hgJ'.block⟩; obtain ⟨xs, ha1, ha2, hxl⟩ := val_row hv1 hv2 hgJ (by simp; omega)) | (go_at_call 25; go_must (refine (sameTexts_eq _ _ xs wJ.heap.size wJ.heap.size _ ?_ ?_ hxl).mono ?_); go_must (exact ha1.keep fun _ _ => rfl); go_must (exact ha2.keep fun _ _ => rfl); rintro e wd ⟨rfl, q, rfl⟩))
  go_wp2_with fail
  go_ret
  have hbI := below_grown hbel0 hgI hb0 (by intro k e; injection e with e; omega)
  exact same_end hbI (wJ := wJ) hgJ hr1 hr2 hgg (by omega) hb0 ⟨rfl, rfl, rfl, Nat.le_refl _, fun _ _ _ => rfl⟩

end Go.Proofs.Ytefonoaffeahjaa
