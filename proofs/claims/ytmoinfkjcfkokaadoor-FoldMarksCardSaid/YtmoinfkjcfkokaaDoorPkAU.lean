/-
  The program's own Is, Alike, Join.
  The contracts of the program's own fold.
  The calls of fold and of its reference at values known by what they hold.
  The bodies of FoldForms, FoldTwice, FoldEqual.
-/
import Derived.Test.YtmoinfkjcfkokaaDoorPkAT
namespace Go.Proofs.YtmoinfkjcfkokaaDoor
open Go.RowKit

set_option maxRecDepth 20000 in
set_option maxHeartbeats 1600000 in
theorem prIs6_s (s : List UInt8) (w : World) (hS : Spans w) (hlen : s.length ≤ 5000) :
    Calls Tryd.prog 15 #[.string (str s)] w fun e w' => e = .returned (.bool (nIs6 s)) ∧ Below w.heap.size w w' := by
  by_cases h0 : s = []
  · subst h0
    have z0 : (str ([] : List UInt8)).toList = [] := str_toList []
    clear hS
    go_enter Tryd.func15, Tryd.ntmps15
    go_wp2
    go_ret
    exact ⟨rfl, Below.refl _ _⟩
  · have HS := Lib.hid (prSearch_s s w hS hlen)
    obtain ⟨x, hx⟩ : ∃ x, nSearch s = x := ⟨_, rfl⟩
    rw [hx] at HS
    have HE : Hid (nIs6 s = decide (x = s)) := Lib.hid (by unfold nIs6; rw [hx, decide_eq_true h0, Bool.true_and])
    have HQ := str_beq x s
    obtain ⟨z, hz⟩ : ∃ z, decide (x = s) = z := ⟨_, rfl⟩
    rw [hz] at HQ HE
    have HZ := str_beq_nil h0
    have HZ2 : ¬ (str s).toList = [] := by rw [str_toList]; exact h0
    clear hx hz h0 hS
    go_enter Tryd.func15, Tryd.ntmps15
    go_wp2_with fail
    refine HS.out.mono ?_
    rintro e w1 ⟨rfl, hb1⟩
    go_wp2
    go_ret
    exact ⟨ret_bool HE.out.symm, hb1⟩

set_option maxRecDepth 20000 in
set_option maxHeartbeats 1600000 in
theorem prAlike_s (s t : List UInt8) (w : World) (hS : Spans w) (hs : s.length ≤ 5000) (ht : t.length ≤ 5000) :
    Calls Tryd.prog 20 #[.string (str s), .string (str t)] w fun e w' => e = .returned (.bool (nAlike s t)) ∧ Below w.heap.size w w' := by
  have HS := Lib.hid (fun W h => prSearch_s s W h hs)
  have HT := Lib.hid (fun W h => prSearch_s t W h ht)
  have HSp := Lib.hid hS
  obtain ⟨R, hR⟩ : ∃ R, nAlike s t = R := ⟨_, rfl⟩
  rw [hR]
  unfold nAlike at hR
  obtain ⟨x, hx⟩ : ∃ x, nSearch s = x := ⟨_, rfl⟩
  obtain ⟨y, hy⟩ : ∃ y, nSearch t = y := ⟨_, rfl⟩
  rw [hx, hy] at hR
  rw [hx] at HS
  rw [hy] at HT
  clear hx hy hS
  by_cases h0 : x = []
  · subst h0
    have HE : Hid (R = false) := Lib.hid (by rw [← hR]; rfl)
    have z0 : (str ([] : List UInt8)).toList = [] := str_toList []
    clear hR
    go_enter Tryd.func20, Tryd.ntmps20
    go_wp2_with fail
    refine (HS.out _ HSp.out).mono ?_
    rintro e w1 ⟨rfl, hb1⟩
    go_wp2
    go_ret
    exact ⟨ret_bool HE.out.symm, hb1⟩
  · have HE : Hid (R = decide (x = y)) := Lib.hid (by rw [← hR, decide_eq_true h0, Bool.true_and])
    have HQ := str_beq x y
    obtain ⟨z, hz⟩ : ∃ z, decide (x = y) = z := ⟨_, rfl⟩
    rw [hz] at HQ HE
    have HZ := str_beq_nil h0
    have HZ2 : ¬ (str x).toList = [] := by rw [str_toList]; exact h0
    clear hR hz h0
    go_enter Tryd.func20, Tryd.ntmps20
    go_wp2_with fail
    refine (HS.out _ HSp.out).mono ?_
    rintro e w1 ⟨rfl, hb1⟩
    have hS1 := Lib.hid (HSp.out.below hb1)
    go_wp2_with fail
    refine (HT.out _ hS1.out).mono ?_
    rintro e w2 ⟨rfl, hb2⟩
    go_wp2
    go_ret
    exact ⟨ret_bool HE.out.symm, below_next hb1 hb2⟩

/-! Join. -/
def nForms (xs : List (List UInt8)) : List (List UInt8) := (xs.map nSearch).filter fun y => decide (y ≠ [])
theorem forms_cons (s : List UInt8) (xs : List (List UInt8)) : nForms (s :: xs) = if nSearch s = [] then nForms xs else nSearch s :: nForms xs := by
  unfold nForms
  rw [List.map_cons]
  by_cases h : nSearch s = []
  · rw [if_pos h, List.filter_cons_of_neg (by simpa using h)]
  · rw [if_neg h, List.filter_cons_of_pos (by simpa using h)]
theorem forms_snoc (xs : List (List UInt8)) (s : List UInt8) : nForms (xs ++ [s]) = nForms xs ++ if nSearch s = [] then [] else [nSearch s] := by
  have e : nForms (xs ++ [s]) = nForms xs ++ nForms [s] := by unfold nForms; rw [List.map_append, List.filter_append]
  rw [e, forms_cons]
  rfl
theorem join_from : ∀ (xs : List (List UInt8)) (O : List UInt8), O ≠ [] → xs.foldl (fun out s => joinStep out (nSearch s)) O = O ++ Lib.joinTail [32] (nForms xs)
  | [], O, _ => by simp [nForms, Lib.joinTail]
  | s :: xs, O, h => by
    rw [List.foldl_cons, forms_cons]
    by_cases h0 : nSearch s = []
    · rw [if_pos h0, h0, step_nil]
      exact join_from xs O h
    · rw [if_neg h0, step_both h h0, join_from xs _ (by simp)]
      simp [Lib.joinTail]
theorem join_forms : ∀ xs : List (List UInt8), nJoin xs = Lib.join (nForms xs) [32]
  | [] => rfl
  | s :: xs => by
    have e : nJoin (s :: xs) = xs.foldl (fun out s => joinStep out (nSearch s)) (joinStep [] (nSearch s)) := rfl
    rw [e, step_out, forms_cons]
    by_cases h0 : nSearch s = []
    · rw [if_pos h0, h0]
      exact join_forms xs
    · rw [if_neg h0, join_from xs _ h0, Lib.join_cons]
theorem step_len (O x : List UInt8) : (joinStep O x).length ≤ O.length + x.length + 1 := by
  unfold joinStep
  split
  · rw [List.length_append, List.length_cons]; omega
  · rw [List.length_append]; omega
theorem join_len6 : ∀ (xs : List (List UInt8)) (O : List UInt8), (∀ x ∈ xs, x.length ≤ 1000) → (xs.foldl (fun out s => joinStep out (nSearch s)) O).length ≤ O.length + xs.length * 48001
  | [], O, _ => by simp
  | s :: xs, O, h => by
    rw [List.foldl_cons, List.length_cons]
    have h1 := join_len6 xs (joinStep O (nSearch s)) fun x hx => h x (by simp [hx])
    have h2 := step_len O (nSearch s)
    have h3 := nSearch_len s
    have h4 := h s (by simp)
    omega
theorem forms_len (xs : List (List UInt8)) : (nForms xs).length ≤ xs.length := by
  unfold nForms
  have := List.length_filter_le (fun y => decide (y ≠ [])) (xs.map nSearch)
  rw [List.length_map] at this
  exact this
theorem info_string : (Tryd.prog.info? 9).map (fun i => (i.zero, i.size, i.bytes)) = some (some (.string ⟨#[]⟩), 1, 16) := by kernel_rfl
/-- append of one string. -/
theorem append_text {ops : Array Oper} {rest : List Oper} {o : Oper} {a : Act} {Q : Exit → Act → World → Prop} (w : World) (hgd : o.guard = none) (s x : Operand)
    (ho : o.op = .call { callee := .builtin .append, args := #[s, x], argTypes := #[33, 33] })
    (base : Nat) (v : Value) (xs : List (List UInt8)) (hs : a.eval s = v) (hown : w.ownsRow base 9 1 v xs.length (xs.map sv)) (y : List UInt8) (u : Value) (hu : u = sv y)
    (hx : a.eval x = .slice (some ⟨w.heap.size, 0, none⟩) 1 1) (hlen : xs.length ≤ 1000000000000 - 1) (hbase : base ≤ w.heap.size)
    (h : ∀ v' w', w'.ownsRow base 9 1 v' (xs ++ [y]).length ((xs ++ [y]).map sv) → Below base w w' → wpList Tryd.prog ops Q rest (a.put o.dst v') w') : wpList Tryd.prog ops Q (o :: rest) a (w.alloc (.cells #[u] 9)) :=
  append_one 33 9 (.string ⟨#[]⟩) 16 Tryd.underlying33 info_string rfl (by decide) one_sv w hgd s x ho base v xs hs hown y u hu hx hlen hbase h

set_option maxRecDepth 20000 in
set_option maxHeartbeats 3200000 in
theorem prJoin6_s (A : Option Addr) (n c : Nat) (xs : List (List UInt8)) (w : World) (hS : Spans w) (h : Arr sv w w.heap.size (.slice A n c) xs) (hn : n ≤ 1000) (hx : ∀ x ∈ xs, x.length ≤ 1000) :
    Calls Tryd.prog 25 #[.slice A n c] w fun e w' => e = .returned (.string (str (nJoin xs))) ∧ Below w.heap.size w w' := by
  have HLn := Lib.hid h.len
  have HX := Lib.hid hx
  have HSp := Lib.hid hS
  obtain ⟨R, hR⟩ : ∃ R, nJoin xs = R := ⟨_, rfl⟩
  rw [hR]
  have HR := Lib.hid hR
  have HJl : Hid (R.length ≤ 48001000) := Lib.hid (by
    have h1 := join_len6 xs [] hx
    have h2 := h.len
    rw [← hR]
    unfold nJoin
    simp at h1
    omega)
  clear hR hx hS
  go_enter Tryd.func25, Tryd.ntmps25
  go_wp2
  go_loopw [3, 9] (fun v i wr => ∃ (k : Nat) (fs : List (List UInt8)), k ≤ n ∧ i = .int .i64 (k : Int) ∧ Hid (nForms (xs.take k) = fs) ∧ fs.length ≤ k ∧ wr.ownsRow w.heap.size 9 1 v fs.length (fs.map sv) ∧ Below w.heap.size w wr) (fun _ i _ => n - (intOf i).toNat)
  case atStart => exact ⟨0, [], by omega, rfl, Lib.hid rfl, by simp, World.ownsRow_nil _ _ _ _, Below.refl _ _⟩
  case round =>
    obtain ⟨k, fs, hk, rfl, HF, hfl, hown, hb⟩ := hrel
    have hbs := hb.size
    by_cases hlt : k < n
    · have t1 : decide ((k : Int) < (n : Int)) = true := by simp; omega
      obtain ⟨b0, o0, rfl, hB0, hc0⟩ := h.some_ (by omega)
      obtain ⟨x, hx⟩ : ∃ a, xs[k]? = some a := ⟨_, List.getElem?_eq_getElem (by have := HLn.out; omega)⟩
      have d0 := (hb.cell (p := ⟨b0, o0 + k, none⟩) hB0).trans (hc0 k x hx)
      simp only [sv] at d0
      have kz : (k : Int) < (n : Int) := by omega
      have hxl := HX.out x (List.mem_of_getElem? hx)
      have HS := Lib.hid (prSearch_s x wr (HSp.out.below hb) (by omega))
      have HN : Hid (nForms (xs.take (k + 1)) = fs ++ if nSearch x = [] then [] else [nSearch x]) := Lib.hid (by rw [take_next hx, forms_snoc, HF.out])
      obtain ⟨y, hy⟩ : ∃ y, nSearch x = y := ⟨_, rfl⟩
      rw [hy] at HS HN
      clear hc0 hx hy hxl
      by_cases hy0 : y = []
      · subst hy0
        have z0 : (str ([] : List UInt8)).toList = [] := str_toList []
        have HN2 : Hid (nForms (xs.take (k + 1)) = fs) := Lib.hid (by rw [HN.out, if_pos rfl, List.append_nil])
        go_wp2_with fail
        refine HS.out.mono ?_
        rintro e w2 ⟨rfl, hb2⟩
        go_wp2
        go_roundw
        case rel => exact ⟨k + 1, fs, by omega, by go_num, HN2, by omega, own_keep_below hown hb2, below_next hb hb2⟩
        case measure => simp [intOf]; omega
      · have z0 : ¬ (str y).toList = [] := by rw [str_toList]; exact hy0
        have z1 := str_beq_nil hy0
        have z2 : (str y).toList.isEmpty = false := by rw [str_toList]; cases y; exact absurd rfl hy0; rfl
        have HN2 : Hid (nForms (xs.take (k + 1)) = fs ++ [y]) := Lib.hid (by rw [HN.out, if_neg hy0])
        clear hy0
        obtain ⟨A4, c4, h4⟩ := (Arr.of_own hown).form
        obtain ⟨M, hM⟩ : ∃ M, fs.length = M := ⟨_, rfl⟩
        have HM := Lib.hid hM
        rw [hM] at h4
        subst h4
        have hfl2 : M ≤ k := by omega
        clear hM
        go_wp2_with fail
        refine HS.out.mono ?_
        rintro e w2 ⟨rfl, hb2⟩
        have hown2 := own_keep_below hown hb2
        have hb3 := below_next hb hb2
        have hb3s := hb3.size
        go_wp2_with (at_builtin; refine append_text w2 rfl (.tmp 17) (.tmp 19) rfl w.heap.size (.slice A4 M c4) fs rfl hown2 y _ rfl rfl (by rw [HM.out]; omega) hb3s ?_; intro r2 w6 hown6 hb7)
        go_roundw
        case rel => exact ⟨k + 1, fs ++ [y], by omega, by go_num, HN2, by rw [List.length_append, HM.out]; simp; omega, hown6, hb3.trans hb7⟩
        case measure => simp [intOf]; omega
    · obtain rfl : k = n := by omega
      have HE : Hid (Lib.join fs [32] = R) := Lib.hid (by rw [← HF.out, List.take_of_length_le (by rw [HLn.out]; omega), ← join_forms, HR.out])
      have HJ := Lib.hid (joined_any _ fs [32] wr (Arr.of_own hown) (by omega) (by rw [HE.out]; have := HJl.out; omega))
      rw [HE.out] at HJ
      go_wp2_with fail
      refine HJ.out.mono ?_
      rintro e w2 ⟨rfl, hb2⟩
      go_wp2
      go_ret
      exact ⟨rfl, below_next hb hb2⟩

end Go.Proofs.YtmoinfkjcfkokaaDoor

namespace Go.Proofs.YtmoinfkjcfkokaaDoor
open Go.RowKit

/-- What the program's tables hold when a call begins. -/
def Ready6 (w : World) : Prop := Spans w
theorem Ready6.below {w w' : World} (h : Ready6 w) (hb : Below w.heap.size w w') : Ready6 w' := Spans.below h hb
theorem prFold_any (s : List UInt8) (w : World) (h : Ready6 w) (hs : s.length ≤ 5000) :
    Calls Tryd.prog 11 #[.string (str s)] w fun e w' => e = .returned (.string (str (nFold s))) ∧ Below w.heap.size w w' := prFold_s s w h hs
theorem prSearch_any (s : List UInt8) (w : World) (h : Ready6 w) (hs : s.length ≤ 5000) :
    Calls Tryd.prog 13 #[.string (str s)] w fun e w' => e = .returned (.string (str (nSearch s))) ∧ Below w.heap.size w w' := prSearch_s s w h hs
theorem prIs6_any (s : List UInt8) (w : World) (h : Ready6 w) (hs : s.length ≤ 5000) :
    Calls Tryd.prog 15 #[.string (str s)] w fun e w' => e = .returned (.bool (nIs6 s)) ∧ Below w.heap.size w w' := prIs6_s s w h hs
theorem prAlike_any (s s2 : List UInt8) (w : World) (h : Ready6 w) (hs : s.length ≤ 5000) (hs2 : s2.length ≤ 5000) :
    Calls Tryd.prog 20 #[.string (str s), .string (str s2)] w fun e w' => e = .returned (.bool (nAlike s s2)) ∧ Below w.heap.size w w' := prAlike_s s s2 w h hs hs2
theorem prLower_any (c : Int) (w : World) (_ : Ready6 w) :
    Calls Tryd.prog 17 #[.int .i64 c] w fun e w' => e = .returned (.int .i64 (lowI c)) ∧ Below w.heap.size w w' := (prLower_s c w).mono fun _ _ ⟨h1, h2⟩ => ⟨h1, h2 ▸ Below.refl _ _⟩
theorem prJoin6_any (A : Option Addr) (n c : Nat) (xs : List (List UInt8)) (w : World) (hS : Ready6 w) (h : Arr sv w w.heap.size (.slice A n c) xs) (hn : n ≤ 1000) (hx : ∀ x ∈ xs, x.length ≤ 1000) :
    Calls Tryd.prog 25 #[.slice A n c] w fun e w' => e = .returned (.string (str (nJoin xs))) ∧ Below w.heap.size w w' := prJoin6_s A n c xs w hS h hn hx

end Go.Proofs.YtmoinfkjcfkokaaDoor

namespace Go.Proofs.YtmoinfkjcfkokaaDoor
open Go.RowKit

theorem prFold_at (W : World) (hS : Ready6 W) (s : List UInt8) (t : List UInt8) (w : World) (hk : Below W.heap.size W w) (hs : s.length ≤ 5000) (hr : nFold s = t) :
    Calls Tryd.prog 11 #[.string (str s)] w fun e w' => e = .returned (.string (str t)) ∧ Below W.heap.size W w' ∧ Below w.heap.size w w' := by
  subst hr
  exact (prFold_any s w (hS.below hk) hs).mono fun _ _ ⟨h1, h2⟩ => ⟨h1, below_next hk h2, h2⟩
theorem refFold_at (W : World) (s : List UInt8) (t : List UInt8) (w : World) (hk : Below W.heap.size W w) (hs : s.length ≤ 5000) (hr : nFold s = t) :
    Calls Tryd.prog 12 #[.string (str s)] w fun e w' => e = .returned (.string (str t)) ∧ Below W.heap.size W w' ∧ Below w.heap.size w w' := by
  subst hr
  exact (refFold_any s w (by omega)).mono fun _ _ ⟨h1, h2⟩ => ⟨h1, below_next hk h2, h2⟩
theorem prSearch_at (W : World) (hS : Ready6 W) (s : List UInt8) (t : List UInt8) (w : World) (hk : Below W.heap.size W w) (hs : s.length ≤ 5000) (hr : nSearch s = t) :
    Calls Tryd.prog 13 #[.string (str s)] w fun e w' => e = .returned (.string (str t)) ∧ Below W.heap.size W w' ∧ Below w.heap.size w w' := by
  subst hr
  exact (prSearch_any s w (hS.below hk) hs).mono fun _ _ ⟨h1, h2⟩ => ⟨h1, below_next hk h2, h2⟩
theorem refSearch_at (W : World) (s : List UInt8) (t : List UInt8) (w : World) (hk : Below W.heap.size W w) (hs : s.length ≤ 5000) (hr : nSearch s = t) :
    Calls Tryd.prog 14 #[.string (str s)] w fun e w' => e = .returned (.string (str t)) ∧ Below W.heap.size W w' ∧ Below w.heap.size w w' := by
  subst hr
  exact (refSearch_any s w (by omega)).mono fun _ _ ⟨h1, h2⟩ => ⟨h1, below_next hk h2, h2⟩
theorem prIs6_at (W : World) (hS : Ready6 W) (s : List UInt8) (t : Bool) (w : World) (hk : Below W.heap.size W w) (hs : s.length ≤ 5000) (hr : nIs6 s = t) :
    Calls Tryd.prog 15 #[.string (str s)] w fun e w' => e = .returned (.bool t) ∧ Below W.heap.size W w' ∧ Below w.heap.size w w' := by
  subst hr
  exact (prIs6_any s w (hS.below hk) hs).mono fun _ _ ⟨h1, h2⟩ => ⟨h1, below_next hk h2, h2⟩
theorem refIs6_at (W : World) (s : List UInt8) (t : Bool) (w : World) (hk : Below W.heap.size W w) (hs : s.length ≤ 5000) (hr : nIs6 s = t) :
    Calls Tryd.prog 16 #[.string (str s)] w fun e w' => e = .returned (.bool t) ∧ Below W.heap.size W w' ∧ Below w.heap.size w w' := by
  subst hr
  exact (refIs6_any s w (by omega)).mono fun _ _ ⟨h1, h2⟩ => ⟨h1, below_next hk h2, h2⟩
theorem prAlike_at (W : World) (hS : Ready6 W) (s s2 : List UInt8) (t : Bool) (w : World) (hk : Below W.heap.size W w) (hs : s.length ≤ 5000) (hs2 : s2.length ≤ 5000) (hr : nAlike s s2 = t) :
    Calls Tryd.prog 20 #[.string (str s), .string (str s2)] w fun e w' => e = .returned (.bool t) ∧ Below W.heap.size W w' ∧ Below w.heap.size w w' := by
  subst hr
  exact (prAlike_any s s2 w (hS.below hk) hs hs2).mono fun _ _ ⟨h1, h2⟩ => ⟨h1, below_next hk h2, h2⟩
theorem refAlike_at (W : World) (s s2 : List UInt8) (t : Bool) (w : World) (hk : Below W.heap.size W w) (hs : s.length ≤ 5000) (hs2 : s2.length ≤ 5000) (hr : nAlike s s2 = t) :
    Calls Tryd.prog 21 #[.string (str s), .string (str s2)] w fun e w' => e = .returned (.bool t) ∧ Below W.heap.size W w' ∧ Below w.heap.size w w' := by
  subst hr
  exact (refAlike_any s s2 w (by omega) (by omega)).mono fun _ _ ⟨h1, h2⟩ => ⟨h1, below_next hk h2, h2⟩
theorem prLower_at (W : World) (hS : Ready6 W) (c t : Int) (w : World) (hk : Below W.heap.size W w) (hr : lowI c = t) :
    Calls Tryd.prog 17 #[.int .i64 c] w fun e w' => e = .returned (.int .i64 t) ∧ Below W.heap.size W w' ∧ Below w.heap.size w w' := by
  subst hr
  exact (prLower_any c w (hS.below hk)).mono fun _ _ ⟨h1, h2⟩ => ⟨h1, below_next hk h2, h2⟩
theorem refLower_at (W : World) (c t : Int) (w : World) (hk : Below W.heap.size W w) (hr : lowI c = t) :
    Calls Tryd.prog 18 #[.int .i64 c] w fun e w' => e = .returned (.int .i64 t) ∧ Below W.heap.size W w' ∧ Below w.heap.size w w' := by
  subst hr
  exact (refLower_any c w).mono fun _ _ ⟨h1, h2⟩ => ⟨h1, below_next hk h2, h2⟩
theorem refEq_at (W : World) (s s2 : List UInt8) (t : Bool) (w : World) (hk : Below W.heap.size W w) (hs : s.length ≤ 5000) (hs2 : s2.length ≤ 5000) (hr : nEq s s2 = t) :
    Calls Tryd.prog 19 #[.string (str s), .string (str s2)] w fun e w' => e = .returned (.bool t) ∧ Below W.heap.size W w' ∧ Below w.heap.size w w' := by
  subst hr
  exact (refEqual_any s s2 w (by omega) (by omega)).mono fun _ _ ⟨h1, h2⟩ => ⟨h1, below_next hk h2, h2⟩
theorem fa1 : nSearch [76, 39, 195, 137, 116, 195, 169, 32, 45, 32, 195, 160, 32, 197, 129, 195, 179, 100, 197, 186, 33] = [108, 32, 101, 116, 101, 32, 97, 32, 108, 111, 100, 122] := by kernel_rfl
theorem fa2 : nSearch [83, 116, 114, 97, 195, 159, 101] = [115, 116, 114, 97, 115, 115, 101] := by kernel_rfl
theorem fa3 : lowI 65 = 97 := by decide
theorem fa4 : nAlike [65] [195, 161] = true := by
  have e1 : nSearch [65] = [97] := by kernel_rfl
  have e2 : nSearch [195, 161] = [97] := by kernel_rfl
  unfold nAlike
  rw [e1, e2]
  decide
theorem fa5 : nIs6 [97, 32, 98] = true := by
  have e1 : nSearch [97, 32, 98] = [97, 32, 98] := by kernel_rfl
  unfold nIs6
  rw [e1]
  decide
theorem fa6 : nFold [195, 137] = [101, 204, 129] := by kernel_rfl

set_option maxRecDepth 20000 in
set_option maxHeartbeats 3200000 in
theorem awake6_any (w : World) (hS : Ready6 w) : Calls Tryd.prog 10 #[] w fun e w' => e = .returned (.bool true) ∧ Below w.heap.size w w' := by
  have q1 : ((str [108, 32, 101, 116, 101, 32, 97, 32, 108, 111, 100, 122]).toList == [108, 32, 101, 116, 101, 32, 97, 32, 108, 111, 100, 122]) = true := by rw [str_toList]; rfl
  have q2 : ((str [115, 116, 114, 97, 115, 115, 101]).toList == [115, 116, 114, 97, 115, 115, 101]) = true := by rw [str_toList]; rfl
  have q3 : ((str [101, 204, 129]).toList == [101, 204, 129]) = true := by rw [str_toList]; rfl
  go_enter Tryd.func10, Tryd.ntmps10
  go_wp2_with fail
  refine (prSearch_at w hS [76, 39, 195, 137, 116, 195, 169, 32, 45, 32, 195, 160, 32, 197, 129, 195, 179, 100, 197, 186, 33] _ _ (Below.refl _ _) (by decide) fa1).mono ?_
  rintro e w1 ⟨rfl, k1, _⟩
  go_wp2_with fail
  refine (prSearch_at w hS [83, 116, 114, 97, 195, 159, 101] _ _ k1 (by decide) fa2).mono ?_
  rintro e w2 ⟨rfl, k2, _⟩
  go_wp2_with fail
  refine (prLower_at w hS 65 _ _ k2 fa3).mono ?_
  rintro e w3 ⟨rfl, k3, _⟩
  go_wp2_with fail
  refine (prAlike_at w hS [65] [195, 161] _ _ k3 (by decide) (by decide) fa4).mono ?_
  rintro e w4 ⟨rfl, k4, _⟩
  go_wp2_with fail
  refine (prIs6_at w hS [97, 32, 98] _ _ k4 (by decide) fa5).mono ?_
  rintro e w5 ⟨rfl, k5, _⟩
  go_wp2_with fail
  refine (prFold_at w hS [195, 137] _ _ k5 (by decide) fa6).mono ?_
  rintro e w6 ⟨rfl, k6, _⟩
  go_wp2
  go_ret
  exact ⟨rfl, k6⟩

end Go.Proofs.YtmoinfkjcfkokaaDoor

namespace Go.Proofs.YtmoinfkjcfkokaaDoor
open Go.RowKit

theorem same_str6 (a : List UInt8) : ((str a).toList == (str a).toList) = true := beq_self_eq_true _
theorem nFold_len (s : List UInt8) : (nFold s).length ≤ 12 * s.length := by
  have h1 := nFL_len s
  have h2 := encL_len (nFL s)
  unfold nFold
  omega

set_option maxRecDepth 20000 in
set_option maxHeartbeats 3200000 in
theorem foldForms_v (s : List UInt8) (c : Int) (w : World) (hS : Ready6 w) (hlen : s.length ≤ 9223372036854775807) :
    Calls Tryd.prog 3 #[.string (str s), .int .i64 c] w fun e w' => e = .returned (.bool true) ∧ Below w.heap.size w w' := by
  have hsz : (str s).size = s.length := rfl
  by_cases h5 : 80 < s.length
  · have t1 : decide (80 < (s.length : Int)) = true := by simp; omega
    go_enter Tryd.func3, Tryd.ntmps3
    go_wp2_with fail
    refine (awake6_any _ hS).mono ?_
    rintro e w1 ⟨rfl, k1⟩
    go_wp2
    go_ret
    exact ⟨rfl, k1⟩
  have t1 : decide (80 < (s.length : Int)) = false := by simp; omega
  have hs : s.length ≤ 5000 := by omega
  obtain ⟨f, hvf⟩ : ∃ x, nFold s = x := ⟨_, rfl⟩
  have Hf := Lib.hid hvf
  obtain ⟨x, hvx⟩ : ∃ x, nSearch s = x := ⟨_, rfl⟩
  have Hx := Lib.hid hvx
  obtain ⟨i, hvi⟩ : ∃ x, nIs6 s = x := ⟨_, rfl⟩
  have Hi := Lib.hid hvi
  obtain ⟨y, hvy⟩ : ∃ x, lowI c = x := ⟨_, rfl⟩
  have Hy := Lib.hid hvy
  have qf := same_str6 f
  have qx := same_str6 x
  clear hvf hvx hvi hvy
  go_enter Tryd.func3, Tryd.ntmps3
  go_wp2_with fail
  refine (awake6_any _ hS).mono ?_
  rintro e w1 ⟨rfl, k1⟩
  go_wp2_with fail
  refine (prFold_at w hS s f _ k1 hs Hf.out).mono ?_
  rintro e w2 ⟨rfl, k2, n2⟩
  go_wp2_with fail
  refine (refFold_at w s f _ k2 hs Hf.out).mono ?_
  rintro e w3 ⟨rfl, k3, n3⟩
  go_wp2_with fail
  refine (prSearch_at w hS s x _ k3 hs Hx.out).mono ?_
  rintro e w4 ⟨rfl, k4, n4⟩
  go_wp2_with fail
  refine (refSearch_at w s x _ k4 hs Hx.out).mono ?_
  rintro e w5 ⟨rfl, k5, n5⟩
  go_wp2_with fail
  refine (prIs6_at w hS s i _ k5 hs Hi.out).mono ?_
  rintro e w6 ⟨rfl, k6, n6⟩
  go_wp2_with fail
  refine (refIs6_at w s i _ k6 hs Hi.out).mono ?_
  rintro e w7 ⟨rfl, k7, n7⟩
  go_wp2_with fail
  refine (prLower_at w hS c y _ k7 Hy.out).mono ?_
  rintro e w8 ⟨rfl, k8, n8⟩
  go_wp2_with fail
  refine (refLower_at w c y _ k8 Hy.out).mono ?_
  rintro e w9 ⟨rfl, k9, n9⟩
  go_wp2
  go_ret
  exact ⟨rfl, k9⟩

set_option maxRecDepth 20000 in
set_option maxHeartbeats 3200000 in
theorem foldTwice_v (s : List UInt8) (w : World) (hS : Ready6 w) (hlen : s.length ≤ 9223372036854775807) :
    Calls Tryd.prog 4 #[.string (str s)] w fun e w' => e = .returned (.bool true) ∧ Below w.heap.size w w' := by
  have hsz : (str s).size = s.length := rfl
  by_cases h5 : 80 < s.length
  · have t1 : decide (80 < (s.length : Int)) = true := by simp; omega
    go_enter Tryd.func4, Tryd.ntmps4
    go_wp2_with fail
    refine (awake6_any _ hS).mono ?_
    rintro e w1 ⟨rfl, k1⟩
    go_wp2
    go_ret
    exact ⟨rfl, k1⟩
  have t1 : decide (80 < (s.length : Int)) = false := by simp; omega
  have hs : s.length ≤ 5000 := by omega
  obtain ⟨f, hvf⟩ : ∃ x, nFold s = x := ⟨_, rfl⟩
  obtain ⟨x, hvx⟩ : ∃ x, nSearch s = x := ⟨_, rfl⟩
  have Hf := Lib.hid hvf
  have Hx := Lib.hid hvx
  have hlf : f.length ≤ 5000 := by rw [← hvf]; have := nFold_len s; omega
  have hlx : x.length ≤ 5000 := by rw [← hvx]; have := nSearch_len s; omega
  have Hff : Hid (nFold f = f) := Lib.hid (by rw [← hvf, nFold_nFold])
  have Hxx : Hid (nSearch x = x) := Lib.hid (by rw [← hvx, nSearch_nSearch])
  have Hfx : Hid (nSearch f = x) := Lib.hid (by rw [← hvf, ← hvx, nSearch_nFold])
  have Hxf : Hid (nFold x = x) := Lib.hid (by rw [← hvx, nFold_nSearch])
  have qf := same_str6 f
  have qx := same_str6 x
  clear hvf hvx
  go_enter Tryd.func4, Tryd.ntmps4
  go_wp2_with fail
  refine (awake6_any _ hS).mono ?_
  rintro e w1 ⟨rfl, k1⟩
  go_wp2_with fail
  refine (prFold_at w hS s f _ k1 hs Hf.out).mono ?_
  rintro e w2 ⟨rfl, k2, n2⟩
  go_wp2_with fail
  refine (prSearch_at w hS s x _ k2 hs Hx.out).mono ?_
  rintro e w3 ⟨rfl, k3, n3⟩
  go_wp2_with fail
  refine (prFold_at w hS f f _ k3 hlf Hff.out).mono ?_
  rintro e w4 ⟨rfl, k4, n4⟩
  go_wp2_with fail
  refine (prSearch_at w hS x x _ k4 hlx Hxx.out).mono ?_
  rintro e w5 ⟨rfl, k5, n5⟩
  go_wp2_with fail
  refine (prSearch_at w hS f x _ k5 hlf Hfx.out).mono ?_
  rintro e w6 ⟨rfl, k6, n6⟩
  go_wp2_with fail
  refine (prFold_at w hS x x _ k6 hlx Hxf.out).mono ?_
  rintro e w7 ⟨rfl, k7, n7⟩
  go_wp2
  go_ret
  exact ⟨rfl, k7⟩

set_option maxRecDepth 20000 in
set_option maxHeartbeats 3200000 in
theorem foldEqual_v (s t : List UInt8) (w : World) (hS : Ready6 w) (hlen : s.length ≤ 9223372036854775807) (hlen2 : t.length ≤ 9223372036854775807) :
    Calls Tryd.prog 5 #[.string (str s), .string (str t)] w fun e w' => e = .returned (.bool true) ∧ Below w.heap.size w w' := by
  have hsz : (str s).size = s.length := rfl
  have hsz2 : (str t).size = t.length := rfl
  by_cases h5 : 40 < s.length
  · have t1 : decide (40 < (s.length : Int)) = true := by simp; omega
    go_enter Tryd.func5, Tryd.ntmps5
    go_wp2_with fail
    refine (awake6_any _ hS).mono ?_
    rintro e w1 ⟨rfl, k1⟩
    go_wp2
    go_ret
    exact ⟨rfl, k1⟩
  have t1 : decide (40 < (s.length : Int)) = false := by simp; omega
  have hs : s.length ≤ 5000 := by omega
  by_cases h6 : 40 < t.length
  · have t2 : decide (40 < (t.length : Int)) = true := by simp; omega
    go_enter Tryd.func5, Tryd.ntmps5
    go_wp2_with fail
    refine (awake6_any _ hS).mono ?_
    rintro e w1 ⟨rfl, k1⟩
    go_wp2
    go_ret
    exact ⟨rfl, k1⟩
  have t2 : decide (40 < (t.length : Int)) = false := by simp; omega
  have ht : t.length ≤ 5000 := by omega
  obtain ⟨x, hvx⟩ : ∃ x, nSearch s = x := ⟨_, rfl⟩
  obtain ⟨y, hvy⟩ : ∃ x, nSearch t = x := ⟨_, rfl⟩
  obtain ⟨f, hvf⟩ : ∃ x, nFold s = x := ⟨_, rfl⟩
  obtain ⟨g, hvg⟩ : ∃ x, nFold t = x := ⟨_, rfl⟩
  have Hx := Lib.hid hvx
  have Hy := Lib.hid hvy
  have Hf := Lib.hid hvf
  have Hg := Lib.hid hvg
  have hal : nAlike s t = (decide (x ≠ []) && decide (x = y)) := by unfold nAlike; rw [hvx, hvy]
  have HQ := str_beq x y
  obtain ⟨z, hz⟩ : ∃ z, decide (x = y) = z := ⟨_, rfl⟩
  rw [hz] at HQ hal
  have qz : (z == z) = true := by simp
  cases he : nEq s t with
  | true =>
    have He := Lib.hid he
    have h1 := fold_equal he
    have hfg : g = f := by rw [← hvf, ← hvg]; unfold nFold; rw [h1]
    have hxy : y = x := by rw [← hvx, ← hvy]; unfold nSearch nSL; rw [h1]
    subst hfg hxy
    have qf := same_str6 g
    have qx := same_str6 y
    by_cases h0 : y = []
    · have Ha : Hid (nAlike s t = false) := Lib.hid (by rw [hal, h0]; rfl)
      subst h0
      have z0 : (str ([] : List UInt8)).toList = [] := str_toList []
      clear hvx hvy hvf hvg hal hz he h1 HQ
      go_enter Tryd.func5, Tryd.ntmps5
      go_wp2_with fail
      refine (awake6_any _ hS).mono ?_
      rintro e w1 ⟨rfl, k1⟩
      go_wp2_with fail
      refine (refEq_at w s t _ _ k1 hs ht He.out).mono ?_
      rintro e w2 ⟨rfl, k2, n2⟩
      go_wp2_with fail
      refine (prFold_at w hS s _ _ k2 hs Hf.out).mono ?_
      rintro e w3 ⟨rfl, k3, n3⟩
      go_wp2_with fail
      refine (prFold_at w hS t _ _ k3 ht Hg.out).mono ?_
      rintro e w4 ⟨rfl, k4, n4⟩
      go_wp2_with fail
      refine (prSearch_at w hS s _ _ k4 hs Hx.out).mono ?_
      rintro e w5 ⟨rfl, k5, n5⟩
      go_wp2_with fail
      refine (prSearch_at w hS t _ _ k5 ht Hy.out).mono ?_
      rintro e w6 ⟨rfl, k6, n6⟩
      go_wp2_with fail
      refine (prAlike_at w hS s t _ _ k6 hs ht Ha.out).mono ?_
      rintro e w7 ⟨rfl, k7, n7⟩
      go_wp2_with fail
      refine (refAlike_at w s t _ _ k7 hs ht Ha.out).mono ?_
      rintro e w8 ⟨rfl, k8, n8⟩
      go_wp2_with fail
      refine (prAlike_at w hS s t _ _ k8 hs ht Ha.out).mono ?_
      rintro e w9 ⟨rfl, k9, n9⟩
      go_wp2_with fail
      refine (prSearch_at w hS s _ _ k9 hs Hx.out).mono ?_
      rintro e w10 ⟨rfl, k10, n10⟩
      go_wp2
      go_ret
      exact ⟨rfl, k10⟩
    · have Ha : Hid (nAlike s t = true) := Lib.hid (by rw [hal, ← hz, decide_eq_true h0]; simp)
      have z0 : ¬ (str y).toList = [] := by rw [str_toList]; exact h0
      have z1 := str_beq_nil h0
      have z2 : (str y).toList.isEmpty = false := by rw [str_toList]; cases y; exact absurd rfl h0; rfl
      clear hvx hvy hvf hvg hal hz he h1 h0 HQ
      go_enter Tryd.func5, Tryd.ntmps5
      go_wp2_with fail
      refine (awake6_any _ hS).mono ?_
      rintro e w1 ⟨rfl, k1⟩
      go_wp2_with fail
      refine (refEq_at w s t _ _ k1 hs ht He.out).mono ?_
      rintro e w2 ⟨rfl, k2, n2⟩
      go_wp2_with fail
      refine (prFold_at w hS s _ _ k2 hs Hf.out).mono ?_
      rintro e w3 ⟨rfl, k3, n3⟩
      go_wp2_with fail
      refine (prFold_at w hS t _ _ k3 ht Hg.out).mono ?_
      rintro e w4 ⟨rfl, k4, n4⟩
      go_wp2_with fail
      refine (prSearch_at w hS s _ _ k4 hs Hx.out).mono ?_
      rintro e w5 ⟨rfl, k5, n5⟩
      go_wp2_with fail
      refine (prSearch_at w hS t _ _ k5 ht Hy.out).mono ?_
      rintro e w6 ⟨rfl, k6, n6⟩
      go_wp2_with fail
      refine (prAlike_at w hS s t _ _ k6 hs ht Ha.out).mono ?_
      rintro e w7 ⟨rfl, k7, n7⟩
      go_wp2_with fail
      refine (refAlike_at w s t _ _ k7 hs ht Ha.out).mono ?_
      rintro e w8 ⟨rfl, k8, n8⟩
      go_wp2_with fail
      refine (prAlike_at w hS s t _ _ k8 hs ht Ha.out).mono ?_
      rintro e w9 ⟨rfl, k9, n9⟩
      go_wp2_with fail
      refine (prSearch_at w hS s _ _ k9 hs Hx.out).mono ?_
      rintro e w10 ⟨rfl, k10, n10⟩
      go_wp2_with fail
      refine (prSearch_at w hS s _ _ k10 hs Hx.out).mono ?_
      rintro e w11 ⟨rfl, k11, n11⟩
      go_wp2_with fail
      refine (prSearch_at w hS t _ _ k11 ht Hy.out).mono ?_
      rintro e w12 ⟨rfl, k12, n12⟩
      go_wp2
      go_ret
      exact ⟨rfl, k12⟩
  | false =>
    have He := Lib.hid he
    by_cases h0 : x = []
    · have Ha : Hid (nAlike s t = false) := Lib.hid (by rw [hal, h0]; rfl)
      subst h0
      have z0 : (str ([] : List UInt8)).toList = [] := str_toList []
      clear hvx hvy hvf hvg hal hz he HQ
      go_enter Tryd.func5, Tryd.ntmps5
      go_wp2_with fail
      refine (awake6_any _ hS).mono ?_
      rintro e w1 ⟨rfl, k1⟩
      go_wp2_with fail
      refine (refEq_at w s t _ _ k1 hs ht He.out).mono ?_
      rintro e w2 ⟨rfl, k2, n2⟩
      go_wp2_with fail
      refine (prAlike_at w hS s t _ _ k2 hs ht Ha.out).mono ?_
      rintro e w3 ⟨rfl, k3, n3⟩
      go_wp2_with fail
      refine (refAlike_at w s t _ _ k3 hs ht Ha.out).mono ?_
      rintro e w4 ⟨rfl, k4, n4⟩
      go_wp2_with fail
      refine (prAlike_at w hS s t _ _ k4 hs ht Ha.out).mono ?_
      rintro e w5 ⟨rfl, k5, n5⟩
      go_wp2_with fail
      refine (prSearch_at w hS s _ _ k5 hs Hx.out).mono ?_
      rintro e w6 ⟨rfl, k6, n6⟩
      go_wp2
      go_ret
      exact ⟨rfl, k6⟩
    · have Ha : Hid (nAlike s t = z) := Lib.hid (by rw [hal, decide_eq_true h0, Bool.true_and])
      have z0 : ¬ (str x).toList = [] := by rw [str_toList]; exact h0
      have z1 := str_beq_nil h0
      have z2 : (str x).toList.isEmpty = false := by rw [str_toList]; cases x; exact absurd rfl h0; rfl
      clear hvx hvy hvf hvg hal hz he h0
      go_enter Tryd.func5, Tryd.ntmps5
      go_wp2_with fail
      refine (awake6_any _ hS).mono ?_
      rintro e w1 ⟨rfl, k1⟩
      go_wp2_with fail
      refine (refEq_at w s t _ _ k1 hs ht He.out).mono ?_
      rintro e w2 ⟨rfl, k2, n2⟩
      go_wp2_with fail
      refine (prAlike_at w hS s t _ _ k2 hs ht Ha.out).mono ?_
      rintro e w3 ⟨rfl, k3, n3⟩
      go_wp2_with fail
      refine (refAlike_at w s t _ _ k3 hs ht Ha.out).mono ?_
      rintro e w4 ⟨rfl, k4, n4⟩
      go_wp2_with fail
      refine (prAlike_at w hS s t _ _ k4 hs ht Ha.out).mono ?_
      rintro e w5 ⟨rfl, k5, n5⟩
      go_wp2_with fail
      refine (prSearch_at w hS s _ _ k5 hs Hx.out).mono ?_
      rintro e w6 ⟨rfl, k6, n6⟩
      go_wp2_with fail
      refine (prSearch_at w hS s _ _ k6 hs Hx.out).mono ?_
      rintro e w7 ⟨rfl, k7, n7⟩
      go_wp2_with fail
      refine (prSearch_at w hS t _ _ k7 ht Hy.out).mono ?_
      rintro e w8 ⟨rfl, k8, n8⟩
      go_wp2
      go_ret
      exact ⟨rfl, k8⟩

end Go.Proofs.YtmoinfkjcfkokaaDoor
