/-
  The contracts of wire's read methods of texts and lists.
-/
import Derived.Test.YtefonoaffeahjaaListInt
import Derived.Test.YtefonoaffeahjaaListText
namespace Go.Proofs.Ytefonoaffeahjaa
open Go.RowKit

theorem rdr_moved' {w w1 : World} {g : Nat} {v v' : Value} {bs : List UInt8} (hb : Box w g 61 #[v, .bool false]) (hs : Sl w1 g v' bs) (hg : w.grownBy w1 none) :
    w.grownBy (w1.setCell ⟨g, 0, none⟩ v') (some g) ∧ Rdr (w1.setCell ⟨g, 0, none⟩ v') g bs false := by
  refine ⟨grown_trans (grown_any _ hg) (grown_put _ g 0 v'), v', (hb.grown hg (by simp)).put 0 v', ?_⟩
  exact hs.keep fun p hp => (World.cell?_setCell_other w1 ⟨g, 0, none⟩ p v' (fun e => by subst e; simp at hp))

theorem rdr_stopped' {w w1 : World} {g : Nat} {v : Value} {bs : List UInt8} (hb : Box w g 61 #[v, .bool false]) (hs : Sl w g v bs) (hg : w.grownBy w1 none) :
    w.grownBy (w1.setCell ⟨g, 1, none⟩ (.bool true)) (some g) ∧ Rdr (w1.setCell ⟨g, 1, none⟩ (.bool true)) g bs true := by
  refine ⟨grown_trans (grown_any _ hg) (grown_put _ g 1 _), v, (hb.grown hg (by simp)).put 1 _, ?_⟩
  exact (hs.grown hg (Nat.le_of_lt hb.lt) (by simp)).keep fun p hp => (World.cell?_setCell_other w1 ⟨g, 1, none⟩ p _ (fun e => by subst e; simp at hp))

theorem own_put {w : World} {base g i : Nat} {T size n : Nat} {v u : Value} {xs : List Value} (h : w.ownsRow base T size v n xs) (hg : g < base) : (w.setCell ⟨g, i, none⟩ u).ownsRow base T size v n xs :=
  ownsRow_setCell_below h (a := ⟨g, i, none⟩) hg u

/-- A list that a read method handed back: a row made since B. -/
def isRow {α : Type} (T : TypeId) (val : α → Value) (B : Nat) (w' : World) (xs : List α) (y : Value) : Prop := w'.ownsRow B T 1 y xs.length (xs.map val)

theorem ReadEnd.after' {α : Type} {val val' : World → α → Value → Prop} {zero : Value} {w0 w : World} {g : Nat} {bs : List UInt8} {f : Bool} {o : Option (α × List UInt8)} {e : Ending} {w' : World}
    (h : ReadEnd val zero w g bs f o e w') (h0 : w0.grownBy w none) (hv : ∀ x y, val w' x y → val' w' x y) : ReadEnd val' zero w0 g bs f o e w' := by
  obtain ⟨h1, h2⟩ := h
  refine ⟨grown_trans (grown_any _ h0) h1, ?_⟩
  cases f with
  | true => cases o <;> exact h2
  | false =>
    cases o with
    | none => exact h2
    | some p =>
      obtain ⟨y, e1, e2, e3⟩ := h2
      exact ⟨y, e1, hv _ _ e2, e3⟩

theorem own_less {w : World} {base base' T size n : Nat} {v : Value} {xs : List Value} (h : w.ownsRow base T size v n xs) (hb : base' ≤ base) : w.ownsRow base' T size v n xs := by
  refine ⟨h.1, ?_⟩
  rcases h.2 with h2 | ⟨g, cap, cur, hv, hg, r⟩
  · exact .inl h2
  · exact .inr ⟨g, cap, cur, hv, by omega, r⟩

set_option maxHeartbeats 800000 in
theorem readText_failed (g : Nat) (bs : List UInt8) (fv : Value) (w : World) (h : Rdr w g bs true) :
    Calls Try.prog 47 #[.pointer (some ⟨g, 0, none⟩), fv] w fun e w' => e = .returned (.string (str [])) ∧ w = w' := by
  obtain ⟨v, hb, hs⟩ := h
  have h1 := hb.cell 1
  simp at h1
  go_enter Try.func47, Try.ntmps47
  go_wp2
  go_ret
  exact ⟨rfl, rfl⟩

set_option maxHeartbeats 800000 in
theorem readInts_failed (g : Nat) (bs : List UInt8) (fv : Value) (w : World) (h : Rdr w g bs true) :
    Calls Try.prog 40 #[.pointer (some ⟨g, 0, none⟩), fv] w fun e w' => e = .returned (.slice none 0 0) ∧ w = w' := by
  obtain ⟨v, hb, hs⟩ := h
  have h1 := hb.cell 1
  simp at h1
  go_enter Try.func40, Try.ntmps40
  go_wp2
  go_ret
  exact ⟨rfl, rfl⟩

set_option maxHeartbeats 800000 in
theorem readTexts_failed (g : Nat) (bs : List UInt8) (fv : Value) (w : World) (h : Rdr w g bs true) :
    Calls Try.prog 43 #[.pointer (some ⟨g, 0, none⟩), fv] w fun e w' => e = .returned (.slice none 0 0) ∧ w = w' := by
  obtain ⟨v, hb, hs⟩ := h
  have h1 := hb.cell 1
  simp at h1
  go_enter Try.func43, Try.ntmps43
  go_wp2
  go_ret
  exact ⟨rfl, rfl⟩

set_option maxHeartbeats 800000 in
theorem readText_any (g : Nat) (bs : List UInt8) (mx : Int) (fv : Value) (w : World) (h : Rdr w g bs false) (hlen : bs.length ≤ 1000000000000) (hd : TextDec w mx fv) :
    Calls Try.prog 47 #[.pointer (some ⟨g, 0, none⟩), fv] w (ReadEnd (fun _ => isText) (.string (str [])) w g bs false (decT mx bs)) := by
  obtain ⟨v, hb, hs⟩ := h
  have h0 := hb.cell 0
  have h1 := hb.cell 1
  simp at h0 h1
  have f0 := hb.free 0
  have f1 := hb.free 1
  obtain ⟨o, ho⟩ : ∃ o, decT mx bs = o := ⟨_, rfl⟩
  obtain ⟨gg, fi, rfl, hd1, hd2⟩ := hd
  have HO := Lib.hid ho
  rw [ho]
  clear ho
  go_enter Try.func47, Try.ntmps47
  go_wp2_with fail
  refine (textDec_at v fi bs g gg mx _ hs hlen hd1 hd2).mono ?_
  rintro e w1 ⟨he, k, rfl⟩
  rw [HO.out] at he
  cases o with
  | none =>
    obtain ⟨y, v', rfl⟩ := he
    go_wp2
    go_ret
    have hm := rdr_stopped k hb hs
    exact ⟨hm.1, rfl, hm.2⟩
  | some p =>
    obtain ⟨y, v', rfl, hy, hs'⟩ := he
    obtain ⟨A', c', hv'⟩ := hs'.form
    rw [hv'] at hs' ⊢
    go_wp2
    go_ret
    have hm := rdr_moved k hb hs'
    exact ⟨hm.1, _, rfl, hy, hm.2⟩

set_option maxHeartbeats 800000 in
theorem readInts_any (g : Nat) (bs : List UInt8) (mx lo hi : Int) (fv : Value) (w : World) (h : Rdr w g bs false) (hlen : bs.length ≤ 1000000000000) (hd : ListDec 49 (fun w => IntDec w lo hi) w mx fv) :
    Calls Try.prog 40 #[.pointer (some ⟨g, 0, none⟩), fv] w (ReadEnd (isRow 3 iv w.heap.size) (.slice none 0 0) w g bs false (decList (decI lo hi) mx bs)) := by
  obtain ⟨v, hb, hs⟩ := h
  have h0 := hb.cell 0
  have h1 := hb.cell 1
  simp at h0 h1
  have f0 := hb.free 0
  have f1 := hb.free 1
  obtain ⟨o, ho⟩ : ∃ o, decList (decI lo hi) mx bs = o := ⟨_, rfl⟩
  obtain ⟨gg, ge, rfl, hcalls⟩ := listIntDec_any v fv bs g mx lo hi w hs (Nat.le_of_lt hb.lt) hlen hd
  rw [ho] at hcalls
  rw [ho]
  clear ho hd
  go_enter Try.func40, Try.ntmps40
  go_wp2_with fail
  refine hcalls.mono ?_
  rintro e w1 ⟨hbel, he⟩
  clear hcalls
  have hgr := grown_of_below none hbel
  have k0 := cell_grown h0 hgr
  have k1 := cell_grown h1 hgr
  have j0 := (hb.grown hgr (by simp)).free 0
  have j1 := (hb.grown hgr (by simp)).free 1
  cases o with
  | none =>
    obtain ⟨y, v', rfl⟩ := he
    go_wp2
    go_ret
    have hm := rdr_stopped' hb hs hgr
    exact ⟨hm.1, rfl, hm.2⟩
  | some p =>
    obtain ⟨y, v', rfl, hy, hs'⟩ := he
    obtain ⟨A', c', hv'⟩ := hs'.form
    rw [hv'] at hs' ⊢
    go_wp2
    go_ret
    have hm := rdr_moved' hb hs' hgr
    exact ⟨hm.1, _, rfl, own_put hy hb.lt, hm.2⟩

set_option maxHeartbeats 800000 in
theorem readTexts_any (g : Nat) (bs : List UInt8) (mx long : Int) (fv : Value) (w : World) (h : Rdr w g bs false) (hlen : bs.length ≤ 1000000000000) (hd : ListDec 53 (fun w => TextDec w long) w mx fv) :
    Calls Try.prog 43 #[.pointer (some ⟨g, 0, none⟩), fv] w (ReadEnd (isRow 9 sv w.heap.size) (.slice none 0 0) w g bs false (decList (decT long) mx bs)) := by
  obtain ⟨v, hb, hs⟩ := h
  have h0 := hb.cell 0
  have h1 := hb.cell 1
  simp at h0 h1
  have f0 := hb.free 0
  have f1 := hb.free 1
  obtain ⟨o, ho⟩ : ∃ o, decList (decT long) mx bs = o := ⟨_, rfl⟩
  obtain ⟨gg, ge, rfl, hcalls⟩ := listTextDec_any v fv bs g mx long w hs (Nat.le_of_lt hb.lt) hlen hd
  rw [ho] at hcalls
  rw [ho]
  clear ho hd
  go_enter Try.func43, Try.ntmps43
  go_wp2_with fail
  refine hcalls.mono ?_
  rintro e w1 ⟨hbel, he⟩
  clear hcalls
  have hgr := grown_of_below none hbel
  have k0 := cell_grown h0 hgr
  have k1 := cell_grown h1 hgr
  have j0 := (hb.grown hgr (by simp)).free 0
  have j1 := (hb.grown hgr (by simp)).free 1
  cases o with
  | none =>
    obtain ⟨y, v', rfl⟩ := he
    go_wp2
    go_ret
    have hm := rdr_stopped' hb hs hgr
    exact ⟨hm.1, rfl, hm.2⟩
  | some p =>
    obtain ⟨y, v', rfl, hy, hs'⟩ := he
    obtain ⟨A', c', hv'⟩ := hs'.form
    rw [hv'] at hs' ⊢
    go_wp2
    go_ret
    have hm := rdr_moved' hb hs' hgr
    exact ⟨hm.1, _, rfl, own_put hy hb.lt, hm.2⟩

set_option maxHeartbeats 800000 in
theorem method_Text (g : Nat) (bs : List UInt8) (f : Bool) (mx : Int) (w : World) (h : Rdr w g bs f) (hlen : bs.length ≤ 1000000000000) :
    Calls Try.prog 29 #[.pointer (some ⟨g, 0, none⟩), .int .i64 mx] w (ReadEnd (fun _ => isText) (.string (str [])) w g bs f (decT mx bs)) := by
  go_enter Try.func29, Try.ntmps29
  go_wp2_with fail
  refine (textOf_dec mx _).mono ?_
  rintro e w1 ⟨fv1, rfl, hd1, hg1⟩
  have hgg := hg1
  have h2 := h.grown hgg
  go_wp2_with fail
  cases f with
  | true =>
    refine (readText_failed g bs _ _ h2).mono ?_
    rintro e w' ⟨rfl, rfl⟩
    go_wp2_with fail
    go_ret
    exact ⟨grown_any _ hgg, rfl, h2⟩
  | false =>
    refine (readText_any g bs mx _ _ h2 hlen hd1).mono ?_
    intro e w' he
    have he2 := he.after' (val' := fun _ => isText) hgg (fun x y hy => hy)
    clear he
    obtain ⟨y, rfl⟩ := he2.ret
    go_wp2_with fail
    go_ret
    exact he2

set_option maxHeartbeats 800000 in
theorem method_Ints (g : Nat) (bs : List UInt8) (f : Bool) (mx lo hi : Int) (w : World) (h : Rdr w g bs f) (hlen : bs.length ≤ 1000000000000) :
    Calls Try.prog 24 #[.pointer (some ⟨g, 0, none⟩), .int .i64 mx, .int .i64 lo, .int .i64 hi] w (ReadEnd (isRow 3 iv w.heap.size) (.slice none 0 0) w g bs f (decList (decI lo hi) mx bs)) := by
  go_enter Try.func24, Try.ntmps24
  go_wp2_with fail
  refine (intFrom_dec lo hi _).mono ?_
  rintro e w1 ⟨fv1, rfl, hd1, hg1⟩
  go_wp2_with fail
  refine (listInt_dec mx lo hi _ _ hd1).mono ?_
  rintro e w2 ⟨fv2, rfl, hd2, hg2⟩
  have hgg := (grown_trans hg1 hg2)
  have h2 := h.grown hgg
  go_wp2_with fail
  cases f with
  | true =>
    refine (readInts_failed g bs _ _ h2).mono ?_
    rintro e w' ⟨rfl, rfl⟩
    go_wp2_with fail
    go_ret
    exact ⟨grown_any _ hgg, rfl, h2⟩
  | false =>
    refine (readInts_any g bs mx lo hi _ _ h2 hlen hd2).mono ?_
    intro e w' he
    have he2 := he.after' (val' := isRow 3 iv w.heap.size) hgg (fun x y hy => own_less hy hgg.size)
    clear he
    obtain ⟨y, rfl⟩ := he2.ret
    go_wp2_with fail
    go_ret
    exact he2

set_option maxHeartbeats 800000 in
theorem method_Texts (g : Nat) (bs : List UInt8) (f : Bool) (mx long : Int) (w : World) (h : Rdr w g bs f) (hlen : bs.length ≤ 1000000000000) :
    Calls Try.prog 26 #[.pointer (some ⟨g, 0, none⟩), .int .i64 mx, .int .i64 long] w (ReadEnd (isRow 9 sv w.heap.size) (.slice none 0 0) w g bs f (decList (decT long) mx bs)) := by
  go_enter Try.func26, Try.ntmps26
  go_wp2_with fail
  refine (textOf_dec long _).mono ?_
  rintro e w1 ⟨fv1, rfl, hd1, hg1⟩
  go_wp2_with fail
  refine (listText_dec mx long _ _ hd1).mono ?_
  rintro e w2 ⟨fv2, rfl, hd2, hg2⟩
  have hgg := (grown_trans hg1 hg2)
  have h2 := h.grown hgg
  go_wp2_with fail
  cases f with
  | true =>
    refine (readTexts_failed g bs _ _ h2).mono ?_
    rintro e w' ⟨rfl, rfl⟩
    go_wp2_with fail
    go_ret
    exact ⟨grown_any _ hgg, rfl, h2⟩
  | false =>
    refine (readTexts_any g bs mx long _ _ h2 hlen hd2).mono ?_
    intro e w' he
    have he2 := he.after' (val' := isRow 9 sv w.heap.size) hgg (fun x y hy => own_less hy hgg.size)
    clear he
    obtain ⟨y, rfl⟩ := he2.ret
    go_wp2_with fail
    go_ret
    exact he2

end Go.Proofs.Ytefonoaffeahjaa
