/-
  The contracts of the program's own functions.
  The calls of normal and of its reference at values known by what they hold.
-/
import Derived.Test.YtpgaebdaakllaaaDoorComposed
namespace Go.Proofs.YtpgaebdaakllaaaDoor
open Go.RowKit

/-- What the program's tables hold when a call begins. -/
def Ready (w : World) : Prop := Spans w
theorem Ready.below {w w' : World} (h : Ready w) (hb : Below w.heap.size w w') : Ready w' := Spans.below h hb
theorem prDecompose_any (s : List UInt8) (w : World) (h : Ready w) (hlen : s.length ≤ 5000) :
    Calls Tryd.prog 11 #[.string (str s)] w fun e w' => e = .returned (.string (str (nD s))) ∧ Below w.heap.size w w' := prDecompose_s s w h hlen
theorem prCompose_any (s : List UInt8) (w : World) (h : Ready w) (hlen : s.length ≤ 5000) :
    Calls Tryd.prog 13 #[.string (str s)] w fun e w' => e = .returned (.string (str (nC s))) ∧ Below w.heap.size w w' := prCompose_s s w h hlen
theorem prStrip_any (s : List UInt8) (w : World) (h : Ready w) (hlen : s.length ≤ 5000) :
    Calls Tryd.prog 17 #[.string (str s)] w fun e w' => e = .returned (.string (str (nStrip s))) ∧ Below w.heap.size w w' := prStrip_s s w h hlen
theorem prMarks_any (s : List UInt8) (w : World) (h : Ready w) (hlen : s.length ≤ 5000) :
    Calls Tryd.prog 19 #[.string (str s)] w fun e w' => e = .returned (.int .i64 (nMarks s : Int)) ∧ Below w.heap.size w w' := prMarks_s s w h hlen
theorem prIs_any (s : List UInt8) (w : World) (h : Ready w) (hlen : s.length ≤ 5000) :
    Calls Tryd.prog 15 #[.string (str s)] w fun e w' => e = .returned (.bool (nIs s)) ∧ Below w.heap.size w w' := prIs_s s w h hlen
theorem prEqual_any (s t : List UInt8) (w : World) (h : Ready w) (hlen : s.length ≤ 5000) (hlen2 : t.length ≤ 5000) :
    Calls Tryd.prog 21 #[.string (str s), .string (str t)] w fun e w' => e = .returned (.bool (nEq s t)) ∧ Below w.heap.size w w' := prEqual_s s t w h hlen hlen2

end Go.Proofs.YtpgaebdaakllaaaDoor

namespace Go.Proofs.YtpgaebdaakllaaaDoor
open Go.RowKit

theorem below_of_drew {w w' : World} (h : ∃ q, w' = w.drewN q) : Below w.heap.size w w' := by
  obtain ⟨q, rfl⟩ := h
  exact below_drewN (Below.refl _ _) q
theorem prDecompose_at (W : World) (hS : Ready W) (s : List UInt8) (t : List UInt8) (w : World) (hk : Below W.heap.size W w) (hs : s.length ≤ 5000) (hr : nD s = t) :
    Calls Tryd.prog 11 #[.string (str s)] w fun e w' => e = .returned (.string (str t)) ∧ Below W.heap.size W w' ∧ Below w.heap.size w w' := by
  subst hr
  exact (prDecompose_any s w (hS.below hk) hs).mono fun _ _ ⟨h1, h2⟩ => ⟨h1, below_next hk h2, h2⟩
theorem refDecompose_at (W : World) (s : List UInt8) (t : List UInt8) (w : World) (hk : Below W.heap.size W w) (hs : s.length ≤ 5000) (hr : nD s = t) :
    Calls Tryd.prog 12 #[.string (str s)] w fun e w' => e = .returned (.string (str t)) ∧ Below W.heap.size W w' ∧ Below w.heap.size w w' := by
  subst hr
  exact (refDecompose_any s w (by omega)).mono fun _ _ ⟨h1, h2⟩ => ⟨h1, below_next hk h2, h2⟩
theorem prCompose_at (W : World) (hS : Ready W) (s : List UInt8) (t : List UInt8) (w : World) (hk : Below W.heap.size W w) (hs : s.length ≤ 5000) (hr : nC s = t) :
    Calls Tryd.prog 13 #[.string (str s)] w fun e w' => e = .returned (.string (str t)) ∧ Below W.heap.size W w' ∧ Below w.heap.size w w' := by
  subst hr
  exact (prCompose_any s w (hS.below hk) hs).mono fun _ _ ⟨h1, h2⟩ => ⟨h1, below_next hk h2, h2⟩
theorem refCompose_at (W : World) (s : List UInt8) (t : List UInt8) (w : World) (hk : Below W.heap.size W w) (hs : s.length ≤ 5000) (hr : nC s = t) :
    Calls Tryd.prog 14 #[.string (str s)] w fun e w' => e = .returned (.string (str t)) ∧ Below W.heap.size W w' ∧ Below w.heap.size w w' := by
  subst hr
  exact (refCompose_any s w (by omega)).mono fun _ _ ⟨h1, h2⟩ => ⟨h1, below_next hk h2, h2⟩
theorem prStrip_at (W : World) (hS : Ready W) (s : List UInt8) (t : List UInt8) (w : World) (hk : Below W.heap.size W w) (hs : s.length ≤ 5000) (hr : nStrip s = t) :
    Calls Tryd.prog 17 #[.string (str s)] w fun e w' => e = .returned (.string (str t)) ∧ Below W.heap.size W w' ∧ Below w.heap.size w w' := by
  subst hr
  exact (prStrip_any s w (hS.below hk) hs).mono fun _ _ ⟨h1, h2⟩ => ⟨h1, below_next hk h2, h2⟩
theorem refStrip_at (W : World) (s : List UInt8) (t : List UInt8) (w : World) (hk : Below W.heap.size W w) (hs : s.length ≤ 5000) (hr : nStrip s = t) :
    Calls Tryd.prog 18 #[.string (str s)] w fun e w' => e = .returned (.string (str t)) ∧ Below W.heap.size W w' ∧ Below w.heap.size w w' := by
  subst hr
  exact (refStrip_any s w (by omega)).mono fun _ _ ⟨h1, h2⟩ => ⟨h1, below_next hk h2, h2⟩
theorem prMarks_at (W : World) (hS : Ready W) (s : List UInt8) (t : Nat) (w : World) (hk : Below W.heap.size W w) (hs : s.length ≤ 5000) (hr : nMarks s = t) :
    Calls Tryd.prog 19 #[.string (str s)] w fun e w' => e = .returned (.int .i64 (t : Int)) ∧ Below W.heap.size W w' ∧ Below w.heap.size w w' := by
  subst hr
  exact (prMarks_any s w (hS.below hk) hs).mono fun _ _ ⟨h1, h2⟩ => ⟨h1, below_next hk h2, h2⟩
theorem refMarks_at (W : World) (s : List UInt8) (t : Nat) (w : World) (hk : Below W.heap.size W w) (hs : s.length ≤ 5000) (hr : nMarks s = t) :
    Calls Tryd.prog 20 #[.string (str s)] w fun e w' => e = .returned (.int .i64 (t : Int)) ∧ Below W.heap.size W w' ∧ Below w.heap.size w w' := by
  subst hr
  exact (refMarks_any s w (by omega)).mono fun _ _ ⟨h1, h2⟩ => ⟨h1, below_next hk h2, h2⟩
theorem prIs_at (W : World) (hS : Ready W) (s : List UInt8) (t : Bool) (w : World) (hk : Below W.heap.size W w) (hs : s.length ≤ 5000) (hr : nIs s = t) :
    Calls Tryd.prog 15 #[.string (str s)] w fun e w' => e = .returned (.bool t) ∧ Below W.heap.size W w' ∧ Below w.heap.size w w' := by
  subst hr
  exact (prIs_any s w (hS.below hk) hs).mono fun _ _ ⟨h1, h2⟩ => ⟨h1, below_next hk h2, h2⟩
theorem refIs_at (W : World) (s : List UInt8) (t : Bool) (w : World) (hk : Below W.heap.size W w) (hs : s.length ≤ 5000) (hr : nIs s = t) :
    Calls Tryd.prog 16 #[.string (str s)] w fun e w' => e = .returned (.bool t) ∧ Below W.heap.size W w' ∧ Below w.heap.size w w' := by
  subst hr
  exact (refIs_any s w (by omega)).mono fun _ _ ⟨h1, h2⟩ => ⟨h1, below_next hk h2, h2⟩
theorem prEqual_at (W : World) (hS : Ready W) (s s2 : List UInt8) (t : Bool) (w : World) (hk : Below W.heap.size W w) (hs : s.length ≤ 5000) (hs2 : s2.length ≤ 5000) (hr : nEq s s2 = t) :
    Calls Tryd.prog 21 #[.string (str s), .string (str s2)] w fun e w' => e = .returned (.bool t) ∧ Below W.heap.size W w' ∧ Below w.heap.size w w' := by
  subst hr
  exact (prEqual_any s s2 w (hS.below hk) hs hs2).mono fun _ _ ⟨h1, h2⟩ => ⟨h1, below_next hk h2, h2⟩
theorem refEqual_at (W : World) (s s2 : List UInt8) (t : Bool) (w : World) (hk : Below W.heap.size W w) (hs : s.length ≤ 5000) (hs2 : s2.length ≤ 5000) (hr : nEq s s2 = t) :
    Calls Tryd.prog 22 #[.string (str s), .string (str s2)] w fun e w' => e = .returned (.bool t) ∧ Below W.heap.size W w' ∧ Below w.heap.size w w' := by
  subst hr
  exact (refEqual_any s s2 w (by omega) (by omega)).mono fun _ _ ⟨h1, h2⟩ => ⟨h1, below_next hk h2, h2⟩
/-- Decode of the reference: the characters, or none. -/
theorem dec_at (W : World) (s : List UInt8) (l : List Nat) (b : Bool) (w : World) (hk : Below W.heap.size W w) (hs : s.length ≤ 5000) (hl : nL s = l) (hb : (decR s).isSome = b) :
    Calls Tryd.prog 23 #[.string (str s)] w fun e w' => ∃ A c, e = .returned (.tuple #[.slice A l.length c, .bool b]) ∧ Arr nv w' w'.heap.size (.slice A l.length c) l ∧ Below W.heap.size W w' ∧ Below w.heap.size w w' := by
  subst hl hb
  refine (refDecode_any s w (by omega)).mono ?_
  rintro e w' ⟨h1, h2⟩
  unfold nL
  cases hr : decR s with
  | none =>
    rw [hr] at h1
    exact ⟨none, 0, h1, Arr.nil_ _ _, below_next hk h2, h2⟩
  | some l =>
    rw [hr] at h1
    obtain ⟨v, rfl, hown⟩ := h1
    have hA := Arr.of_own hown
    obtain ⟨A, c, rfl⟩ := hA.form
    exact ⟨A, c, rfl, hA, below_next hk h2, h2⟩
theorem script_at (W : World) (s : List UInt8) (n : Nat) (w : World) (hk : Below W.heap.size W w) (hs : s.length ≤ 5000) (hr : scriptR s = n) :
    Calls Tryd.prog 26 #[.string (str s)] w fun e w' => e = .returned (.int .i64 (n : Int)) ∧ Below W.heap.size W w' ∧ Below w.heap.size w w' := by
  subst hr
  exact (refScript_any s w (by omega)).mono fun _ _ ⟨h1, h2⟩ => ⟨h1, below_next hk h2, h2⟩

theorem aw1 : nD [195, 169] = [101, 204, 129] := by kernel_rfl
theorem aw2 : nD [239, 172, 129] = [102, 105] := by kernel_rfl
theorem aw_c1 : nC [99, 204, 129, 204, 167] = [195, 167, 204, 129] := by
  unfold nC
  have e : dcF (nL [99, 204, 129, 204, 167]) = [99, 807, 769] := by kernel_rfl
  rw [e, compF_base (by decide +kernel)]
  have e1 : [807, 769].takeWhile isM = [807, 769] := by kernel_rfl
  have e2 : [807, 769].dropWhile isM = [] := by kernel_rfl
  rw [e1, e2, compF]
  decide +kernel
theorem aw_is : nIs [195, 169] = true := by
  have e : nC [195, 169] = [195, 169] := by
    unfold nC
    have e : dcF (nL [195, 169]) = [101, 769] := by kernel_rfl
    rw [e, compF_base (by decide +kernel)]
    have e1 : [769].takeWhile isM = [769] := by kernel_rfl
    have e2 : [769].dropWhile isM = [] := by kernel_rfl
    rw [e1, e2, compF]
    decide +kernel
  unfold nIs
  rw [e]
  decide +kernel
theorem aw_eq : nEq [195, 169] [101, 204, 129] = true := by kernel_rfl
theorem aw_strip : nStrip [195, 169] = [101] := by kernel_rfl
theorem aw_marks : nMarks [195, 169] = 1 := by kernel_rfl

set_option maxRecDepth 20000 in
set_option maxHeartbeats 3200000 in
theorem awake_any (w : World) (hS : Ready w) : Calls Tryd.prog 10 #[] w fun e w' => e = .returned (.bool true) ∧ Below w.heap.size w w' := by
  have q1 : ((str [101, 204, 129]).toList == [101, 204, 129]) = true := by rw [str_toList]; rfl
  have q2 : ((str [102, 105]).toList == [102, 105]) = true := by rw [str_toList]; rfl
  have q3 : ((str [195, 167, 204, 129]).toList == [195, 167, 204, 129]) = true := by rw [str_toList]; rfl
  have q4 : ((str [101]).toList == [101]) = true := by rw [str_toList]; rfl
  go_enter Tryd.func10, Tryd.ntmps10
  go_wp2_with fail
  refine (prDecompose_at w hS [195, 169] _ _ (Below.refl _ _) (by decide) aw1).mono ?_
  rintro e w1 ⟨rfl, k1, _⟩
  go_wp2_with fail
  refine (prDecompose_at w hS [239, 172, 129] _ _ k1 (by decide) aw2).mono ?_
  rintro e w2 ⟨rfl, k2, _⟩
  go_wp2_with fail
  refine (prCompose_at w hS [99, 204, 129, 204, 167] _ _ k2 (by decide) aw_c1).mono ?_
  rintro e w3 ⟨rfl, k3, _⟩
  go_wp2_with fail
  refine (prIs_at w hS [195, 169] _ _ k3 (by decide) aw_is).mono ?_
  rintro e w4 ⟨rfl, k4, _⟩
  go_wp2_with fail
  refine (prEqual_at w hS [195, 169] [101, 204, 129] _ _ k4 (by decide) (by decide) aw_eq).mono ?_
  rintro e w5 ⟨rfl, k5, _⟩
  go_wp2_with fail
  refine (prStrip_at w hS [195, 169] _ _ k5 (by decide) aw_strip).mono ?_
  rintro e w6 ⟨rfl, k6, _⟩
  go_wp2_with fail
  refine (prMarks_at w hS [195, 169] _ _ k6 (by decide) aw_marks).mono ?_
  rintro e w7 ⟨rfl, k7, _⟩
  go_wp2
  go_ret
  exact ⟨rfl, k7⟩

end Go.Proofs.YtpgaebdaakllaaaDoor
