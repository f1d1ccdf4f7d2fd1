/-
  In plain mathematics: digits plus a multiple of others, products by rows, quotients by estimates, groups of decimal digits.
-/
import Derived.Test.YtheadamdhjhnpaaDoorRefShow
namespace Go.Proofs.YtheadamdhjhnpaaDoor
open Go.RowKit

theorem pw_zero : pw 0 = 1 := rfl
theorem pw_succ (k : Nat) : pw (k + 1) = pw k * 65536 := Nat.pow_succ ..
theorem pw_pos (k : Nat) : 0 < pw k := Nat.pow_pos (by omega)
theorem pw_add (a b : Nat) : pw (a + b) = pw a * pw b := Nat.pow_add ..
theorem vl_lt' {l : List Nat} (h : Dig l) : vl l < pw l.length := vl_lt h
theorem vl_app (l m : List Nat) : vl (l ++ m) = vl l + pw l.length * vl m := vl_append l m

/-! Digits plus a multiple of others. -/
/-- The head of a round: k digits are done. -/
def AddM (l m : List Nat) (f : Int) (k : Nat) (cy : Int) (ds : List Nat) : Prop :=
  ds.length = k ∧ Dig ds ∧ (-70000 ≤ cy ∧ cy ≤ 70000) ∧ (vl ds : Int) + (pw k : Int) * cy = (vl (l.take k) : Int) + f * (vl (m.take k) : Int)
theorem AddM.start (l m : List Nat) (f : Int) : AddM l m f 0 0 [] := ⟨rfl, by intro d hd; simp at hd, by omega, by simp [vl]⟩
theorem AddM.step {l m ds : List Nat} {f cy : Int} {k d : Nat} (h : AddM l m f k cy ds) (hl : Dig l) (hd : l[k]? = some d) (x : Int) (hx : f * (vl (m.take (k + 1)) : Int) = f * (vl (m.take k) : Int) + (pw k : Int) * x)
    (hb : -4294967296 ≤ x ∧ x ≤ 4294967296) : AddM l m f (k + 1) ((cy + d + x) / 65536) (ds ++ [((cy + d + x) % 65536).toNat]) := by
  obtain ⟨h1, h2, h3, h4⟩ := h
  have hdl := hl.at_ hd
  refine ⟨by simp [h1], h2.append (by intro y hy; simp at hy; omega), by omega, ?_⟩
  rw [hx, vl_take hd, vl_snoc, h1]
  show ((vl ds + pw k * ((cy + d + x) % 65536).toNat : Nat) : Int) + (pw (k + 1) : Int) * ((cy + d + x) / 65536) = ((vl (l.take k) + pw k * d : Nat) : Int) + _
  rw [pw_succ]
  have e : ((((cy + d + x) % 65536).toNat : Nat) : Int) = (cy + d + x) % 65536 := by omega
  simp only [Int.natCast_add, Int.natCast_mul, e]
  generalize (pw k : Int) = P at *
  have e2 : P * ((cy + d + x) % 65536) + P * ((65536 : Nat) : Int) * ((cy + d + x) / 65536) = P * cy + P * d + P * x := by
    rw [Int.mul_assoc, ← Int.mul_add, ← Int.mul_add, ← Int.mul_add]
    congr 1
    have := Int.emod_add_mul_ediv (cy + d + x) 65536
    simpa using this
  omega
theorem addm_in {m : List Nat} {k b : Nat} (f : Int) (h : m[k]? = some b) : f * (vl (m.take (k + 1)) : Int) = f * (vl (m.take k) : Int) + (pw k : Int) * (f * b) := by
  rw [vl_take h]
  show f * ((vl (m.take k) + pw k * b : Nat) : Int) = _
  rw [Int.natCast_add, Int.natCast_mul, Int.mul_add, Int.mul_left_comm]
theorem addm_out {m : List Nat} {k : Nat} (f : Int) (h : m.length ≤ k) : f * (vl (m.take (k + 1)) : Int) = f * (vl (m.take k) : Int) + (pw k : Int) * 0 := by
  rw [take_past h]; omega
theorem mul_bound {f : Int} {b : Nat} (hf : -65536 ≤ f ∧ f ≤ 65536) (hb : b < 65536) : -4294967296 ≤ f * b ∧ f * (b : Int) ≤ 4294967296 := by
  have h0 : (0 : Int) ≤ (b : Int) := by omega
  have h1 : f * (b : Int) ≤ 65536 * (b : Int) := Int.mul_le_mul_of_nonneg_right hf.2 h0
  have h2 : -65536 * (b : Int) ≤ f * (b : Int) := Int.mul_le_mul_of_nonneg_right hf.1 h0
  omega

/-- What addMultiple leaves. -/
def AddEnd (l m : List Nat) (f cy : Int) (ds : List Nat) : Prop := ds.length = l.length ∧ Dig ds ∧ (vl ds : Int) + (pw l.length : Int) * cy = (vl l : Int) + f * (vl m : Int)
theorem AddM.done {l m ds : List Nat} {f cy : Int} {k : Nat} (h : AddM l m f k cy ds) (hk : l.length = k) (hm : m.length ≤ k) : AddEnd l m f cy ds := by
  obtain ⟨h1, h2, _, h4⟩ := h
  rw [List.take_of_length_le (by omega), List.take_of_length_le hm] at h4
  exact ⟨by omega, h2, by rw [hk]; exact h4⟩
theorem floor_zero {V P cy X : Int} (h : V + P * cy = X) (h0 : 0 ≤ V) (h1 : V < P) (hX : 0 ≤ X) (hX2 : X < P) : cy = 0 := by
  rcases Int.lt_trichotomy cy 0 with hc | hc | hc
  · have : P * cy ≤ P * (-1) := Int.mul_le_mul_of_nonneg_left (by omega) (by omega)
    omega
  · exact hc
  · have : P * 1 ≤ P * cy := Int.mul_le_mul_of_nonneg_left (by omega) (by omega)
    omega
theorem floor_neg {V P cy X : Int} (h : V + P * cy = X) (h0 : 0 ≤ V) (h1 : V < P) (hX : X < 0) (hX2 : -P ≤ X) : cy = -1 := by
  have : (V + P * (cy + 1)) = X + P := by rw [Int.mul_add]; omega
  have := floor_zero this h0 h1 (by omega) (by omega)
  omega
theorem AddEnd.zero {l m ds : List Nat} {f cy : Int} (h : AddEnd l m f cy ds) {x : Nat} (hx : (vl l : Int) + f * (vl m : Int) = (x : Int)) (hx2 : x < pw l.length) : cy = 0 ∧ vl ds = x := by
  obtain ⟨h1, h2, h3⟩ := h
  have hv := vl_lt' h2
  rw [h1] at hv
  rw [hx] at h3
  have hc := floor_zero h3 (by omega) (by omega) (by omega) (by omega)
  subst hc
  refine ⟨rfl, ?_⟩
  rw [Int.mul_zero] at h3
  omega
theorem AddEnd.neg {l m ds : List Nat} {f cy : Int} (h : AddEnd l m f cy ds) {x : Nat} (hx : (vl l : Int) + f * (vl m : Int) = -(x : Int)) (h0 : 0 < x) (hx2 : x ≤ pw l.length) : cy = -1 ∧ vl ds + x = pw l.length := by
  obtain ⟨h1, h2, h3⟩ := h
  have hv := vl_lt' h2
  rw [h1] at hv
  rw [hx] at h3
  have hc := floor_neg h3 (by omega) (by omega) (by omega) (by omega)
  subst hc
  refine ⟨rfl, ?_⟩
  omega
theorem AddEnd.over {l m ds : List Nat} {f cy : Int} (h : AddEnd l m f cy ds) {x : Nat} (hx : (vl l : Int) + f * (vl m : Int) = (pw l.length : Int) + (x : Int)) (hx2 : x < pw l.length) : vl ds = x := by
  obtain ⟨h1, h2, h3⟩ := h
  have hv := vl_lt' h2
  rw [h1] at hv
  rw [hx] at h3
  have h4 : (vl ds : Int) + (pw l.length : Int) * (cy - 1) = (x : Int) := by rw [Int.mul_sub]; omega
  have hc := floor_zero h4 (by omega) (by omega) (by omega) (by omega)
  rw [hc, Int.mul_zero] at h4
  omega

/-! Products by rows. -/
theorem out_split {l m os : List Nat} {i : Nat} (h : Out l m os i) (hi : i < l.length) :
    ∃ pre D post, os = pre ++ (D ++ post) ∧ pre.length = i ∧ D.length = m.length + 1 ∧ Dig D ∧ vl D < pw m.length := by
  obtain ⟨h1, h2, h3, h4⟩ := h
  refine ⟨os.take i, (os.drop i).take (m.length + 1), (os.drop i).drop (m.length + 1), by rw [List.take_append_drop, List.take_append_drop], by rw [List.length_take]; omega, by rw [List.length_take, List.length_drop]; omega, ?_, ?_⟩
  · intro d hd
    exact h2 d (List.mem_of_mem_drop (List.mem_of_mem_take hd))
  · have hlen : m.length < (os.drop i).length := by rw [List.length_drop]; omega
    have hz : (os.drop i)[m.length]? = some 0 := by
      rw [List.getElem?_eq_getElem hlen]
      have e : os[i + m.length]? = some ((os.drop i)[m.length]) := by rw [List.getElem_drop, List.getElem?_eq_getElem]
      rw [h3 _ _ (Nat.le_refl _) e]
    rw [vl_take hz, Nat.mul_zero, Nat.add_zero]
    have hd : Dig ((os.drop i).take m.length) := fun d hd => h2 d (List.mem_of_mem_drop (List.mem_of_mem_take hd))
    have := vl_lt' hd
    rw [List.length_take, Nat.min_eq_left (by omega)] at this
    exact this
theorem row_fits {a D M P : Nat} (ha : a < 65536) (hD : D < P) (hM : M < P) : D + a * M < P * 65536 := by
  have : a * M ≤ 65535 * M := Nat.mul_le_mul (by omega) (Nat.le_refl _)
  omega
theorem Out.next {l m pre D D' post : List Nat} {i a : Nat} {cy : Int} (h : Out l m (pre ++ (D ++ post)) i) (hp : pre.length = i) (hD : D.length = m.length + 1) (hDv : vl D < pw m.length) (ha : l[i]? = some a) (hl : Dig l) (hm : Dig m)
    (he : AddEnd D m (a : Int) cy D') : Out l m (pre ++ (D' ++ post)) (i + 1) := by
  obtain ⟨h1, h2, h3, h4⟩ := h
  have hfit := row_fits (hl.at_ ha) hDv (vl_lt' hm)
  rw [← pw_succ, ← hD] at hfit
  obtain ⟨_, hv⟩ := he.zero (x := vl D + a * vl m) (by rw [Int.natCast_add, Int.natCast_mul]) hfit
  have hlen := he.1
  have hpre : Dig pre := fun d hd => h2 d (by simp [hd])
  have hpost : Dig post := fun d hd => h2 d (by simp [hd])
  refine ⟨by simp only [List.length_append] at h1 ⊢; omega, hpre.append (he.2.1.append hpost), fun j d hj hd => ?_, ?_⟩
  · rw [List.getElem?_append_right (by omega), List.getElem?_append_right (by omega)] at hd
    refine h3 j d (by omega) ?_
    rw [List.getElem?_append_right (by omega), List.getElem?_append_right (by omega), ← hlen]
    exact hd
  · rw [vl_app, vl_app] at h4 ⊢
    rw [vl_take ha, Nat.add_mul, hlen, hv, ← h4, hp, Nat.add_right_comm (vl D), Nat.mul_add _ _ (a * vl m)]
    show _ = _ + pw i * a * vl m
    rw [Nat.mul_assoc (pw i)]
    omega

/-! Quotients. -/
theorem est_ok {Dv b t lo P tD tB est loD : Nat} (hP : 0 < P) (hD : Dv = loD + P * tD) (hlo : loD < P) (hb : b = lo + P * tB) (hlo2 : lo < P) (ht : t = Dv / b) (hb0 : 0 < b) (hest : est = tD / tB) (hB : 0 < tB)
    (hsmall : t < 65536) (hbig : (lo = 0 ∧ loD = 0 ∧ P = 1) ∨ 65536 ≤ tB) : est = t ∨ est = t + 1 := by
  rcases hbig with ⟨rfl, rfl, rfl⟩ | hbig
  · left
    rw [hest, ht, hD, hb]
    simp
  · have h1 : t * b ≤ Dv := by rw [ht]; exact Nat.div_mul_le_self _ _
    have h2 : Dv < (t + 1) * b := by rw [ht]; exact (Nat.div_lt_iff_lt_mul hb0).1 (by omega)
    have h3 : t * tB ≤ tD := by
      have h4 : P * (t * tB) ≤ t * b := by
        rw [hb, Nat.mul_add, Nat.mul_left_comm]
        omega
      have h5 : P * (t * tB) < P * (tD + 1) := by rw [Nat.mul_add]; omega
      have := Nat.lt_of_mul_lt_mul_left h5
      omega
    have h6 : t ≤ est := by rw [hest]; exact (Nat.le_div_iff_mul_le hB).2 h3
    have h7 : est < t + 2 := by
      refine Nat.lt_of_not_le fun hc => ?_
      have h8 : (t + 2) * tB ≤ tD := (Nat.le_div_iff_mul_le hB).1 (by rw [← hest]; exact hc)
      have h9 : P * ((t + 2) * tB) ≤ Dv := by rw [hD]; exact Nat.le_trans (Nat.mul_le_mul (Nat.le_refl _) h8) (by omega)
      have h10 : (t + 1) * b ≤ P * ((t + 1) * (tB + 1)) := by
        rw [hb, Nat.mul_left_comm P]
        exact Nat.mul_le_mul (Nat.le_refl _) (by rw [Nat.mul_add]; omega)
      have h11 : P * ((t + 2) * tB) < P * ((t + 1) * (tB + 1)) := by omega
      have h12 := Nat.lt_of_mul_lt_mul_left h11
      rw [Nat.add_mul t 2, Nat.add_mul t 1, Nat.mul_add t] at h12
      omega
    omega

/-- The top digits of the two numbers that a quotient's digit is guessed by. -/
theorem est_list {D : List Nat} {b nb : Nat} (hD : Dig D) (hDl : D.length = nb + 1) (hnb : (dg b).length = nb) (hb0 : 0 < b) (hlt : vl D < b * 65536) :
    0 < vl ((dg b).drop (nb - 3)) ∧ (vl (D.drop (nb - 3)) / vl ((dg b).drop (nb - 3)) = vl D / b ∨ vl (D.drop (nb - 3)) / vl ((dg b).drop (nb - 3)) = vl D / b + 1) := by
  have hnb0 : nb ≠ 0 := by rw [← hnb]; intro e; have := dg_eq_nil.1 (List.length_eq_zero_iff.1 e); omega
  have e1 : vl D = vl (D.take (nb - 3)) + pw (nb - 3) * vl (D.drop (nb - 3)) := by
    conv => lhs; rw [← List.take_append_drop (nb - 3) D]
    rw [vl_app, List.length_take, Nat.min_eq_left (by omega)]
  have e2 : b = vl ((dg b).take (nb - 3)) + pw (nb - 3) * vl ((dg b).drop (nb - 3)) := by
    conv => lhs; rw [← vl_dg b, ← List.take_append_drop (nb - 3) (dg b)]
    rw [vl_app, List.length_take, Nat.min_eq_left (by omega)]
  have l1 := vl_lt' (hD.take (nb - 3))
  rw [List.length_take, Nat.min_eq_left (by omega)] at l1
  have l2 := vl_lt' ((dig_dg b).take (nb - 3))
  rw [List.length_take, Nat.min_eq_left (by omega)] at l2
  have hge : ∀ j, j < nb → pw (nb - 1) ≤ b := fun j hj => by
    refine Nat.le_of_not_lt fun hc => ?_
    have := dg_len_pw hc
    omega
  have hge := hge 0 (by omega)
  have hB : 0 < vl ((dg b).drop (nb - 3)) := by
    refine Nat.pos_of_ne_zero fun hc => ?_
    rw [hc, Nat.mul_zero, Nat.add_zero] at e2
    have := pw_mono (show nb - 3 ≤ nb - 1 by omega)
    omega
  refine ⟨hB, est_ok (pw_pos _) e1 l1 e2 l2 rfl hb0 rfl hB ((Nat.div_lt_iff_lt_mul hb0).2 (by rw [Nat.mul_comm]; exact hlt)) ?_⟩
  by_cases h3 : nb ≤ 3
  · left
    have e0 : nb - 3 = 0 := by omega
    rw [e0]
    exact ⟨rfl, rfl, rfl⟩
  · right
    refine Nat.le_of_not_lt fun hc => ?_
    have hx : pw (nb - 3) * (vl ((dg b).drop (nb - 3)) + 1) ≤ pw (nb - 3) * 65536 := Nat.mul_le_mul (Nat.le_refl _) (by omega)
    rw [Nat.mul_add, ← pw_succ] at hx
    have := pw_two (show nb - 3 + 1 < nb - 1 by omega)
    have := pw_pos (nb - 3 + 1)
    omega

/-- One digit of the quotient: of the two guesses, what is left. -/
theorem take_guess {D ds : List Nat} {b t nb : Nat} {cy : Int} (hDl : D.length = nb + 1) (hlt : vl D < b * 65536) (hbp : b < pw nb) (hb0 : 0 < b) (he : AddEnd D (dg b) (-(t : Int)) cy ds) :
    (t = vl D / b → cy = 0 ∧ vl ds = vl D % b) ∧ (t = vl D / b + 1 → cy = -1 ∧ ∀ (ds2 : List Nat) (cy2 : Int), AddEnd ds (dg b) 1 cy2 ds2 → vl ds2 = vl D % b) := by
  have hdm := Nat.div_add_mod (vl D) b
  have hmod := Nat.mod_lt (vl D) hb0
  have hP : b * 65536 ≤ pw (nb + 1) := by rw [pw_succ]; exact Nat.mul_le_mul (by omega) (Nat.le_refl _)
  have hP2 : b ≤ pw (nb + 1) := by omega
  constructor
  · rintro rfl
    refine he.zero ?_ (by rw [hDl]; omega)
    rw [vl_dg, Int.neg_mul, ← Int.natCast_mul, Nat.mul_comm]
    omega
  · rintro rfl
    have hx : vl D + (b - vl D % b) = (vl D / b + 1) * b := by rw [Nat.add_mul, Nat.mul_comm (vl D / b)]; omega
    obtain ⟨h1, h2⟩ := he.neg (x := b - vl D % b) (by rw [vl_dg, Int.neg_mul, ← Int.natCast_mul, ← hx]; omega) (by omega) (by rw [hDl]; omega)
    refine ⟨h1, fun ds2 cy2 he2 => ?_⟩
    rw [hDl] at h2
    have hl := he.1
    rw [hDl] at hl
    refine he2.over (x := vl D % b) ?_ (by rw [hl]; omega)
    rw [vl_dg, hl, Int.one_mul]
    omega

/-- The head of a round of quotient. -/
def Quo (a b k : Nat) (R Q : List Nat) : Prop := Dig R ∧ Dig Q ∧ (∀ j d, j < k → Q[j]? = some d → d = 0) ∧ a = vl R + b * vl Q ∧ vl R < b * pw k
theorem Quo.split {a b k nb : Nat} {R Q : List Nat} (h : Quo a b (k + 1) R Q) (hR : k + nb + 1 ≤ R.length) (_hb : b < pw nb) :
    ∃ pre D post, R = pre ++ (D ++ post) ∧ pre.length = k ∧ D.length = nb + 1 ∧ Dig D ∧ vl D < b * 65536 := by
  obtain ⟨h1, h2, h3, h4, h5⟩ := h
  refine ⟨R.take k, (R.drop k).take (nb + 1), (R.drop k).drop (nb + 1), by rw [List.take_append_drop, List.take_append_drop], by rw [List.length_take]; omega, by rw [List.length_take, List.length_drop]; omega, ?_, ?_⟩
  · intro d hd
    exact h1 d (List.mem_of_mem_drop (List.mem_of_mem_take hd))
  · have e : vl R = vl (R.take k) + pw k * (vl ((R.drop k).take (nb + 1)) + pw (nb + 1) * vl ((R.drop k).drop (nb + 1))) := by
      conv => lhs; rw [← List.take_append_drop k R, vl_app]
      conv => lhs; rw [← List.take_append_drop (nb + 1) (R.drop k), vl_app]
      rw [List.length_take, Nat.min_eq_left (by omega), List.length_take, List.length_drop, Nat.min_eq_left (by omega)]
    rw [pw_succ, Nat.mul_left_comm] at h5
    have : pw k * (vl ((R.drop k).take (nb + 1)) + pw (nb + 1) * vl ((R.drop k).drop (nb + 1))) < pw k * (b * 65536) := by omega
    have := Nat.lt_of_mul_lt_mul_left this
    omega
theorem Quo.next {a b k nb : Nat} {pre D D' post Q : List Nat} (h : Quo a b (k + 1) (pre ++ (D ++ post)) Q) (hp : pre.length = k) (hD : D.length = nb + 1) (hb : b < pw nb) (hb0 : 0 < b) (_hD' : D'.length = D.length) (hdig : Dig D') (hv : vl D' = vl D % b)
    (hQ : k < Q.length) (hlt : vl D < b * 65536) : Quo a b k (pre ++ (D' ++ post)) (Q.set k (vl D / b)) := by
  obtain ⟨h1, h2, h3, h4, h5⟩ := h
  have hpre : Dig pre := fun d hd => h1 d (by simp [hd])
  have hpost : Dig post := fun d hd => h1 d (by simp [hd])
  have hz : Q[k]? = some 0 := by
    have : Q[k]? = some Q[k] := List.getElem?_eq_getElem hQ
    rw [this, h3 k _ (by omega) this]
  have hq : vl D / b < 65536 := (Nat.div_lt_iff_lt_mul hb0).2 (by rw [Nat.mul_comm]; exact hlt)
  have hs := vl_set hz (vl D / b)
  have hdm := Nat.div_add_mod (vl D) b
  have hmod := Nat.mod_lt (vl D) hb0
  rw [vl_app, vl_app, hp] at h5 h4
  rw [pw_succ, Nat.mul_left_comm] at h5
  have hpost0 : vl post = 0 := by
    refine Nat.eq_zero_of_not_pos fun hc => ?_
    have e1 : pw k * (vl D + pw D.length * vl post) < pw k * (b * 65536) := by omega
    have e2 := Nat.lt_of_mul_lt_mul_left e1
    have e3 : pw D.length * 1 ≤ pw D.length * vl post := Nat.mul_le_mul (Nat.le_refl _) hc
    rw [hD, pw_succ] at e2 e3
    omega
  have hpv := vl_lt' hpre
  rw [hp] at hpv
  rw [hpost0, Nat.mul_zero, Nat.add_zero] at h4 h5
  refine ⟨hpre.append (hdig.append hpost), h2.set _ hq, fun j d hj hd => ?_, ?_, ?_⟩
  · rw [List.getElem?_set_ne (by omega)] at hd
    exact h3 j d (by omega) hd
  · rw [vl_app, vl_app, hp, hpost0, Nat.mul_zero, Nat.add_zero, hv, h4]
    have e1 : vl (Q.set k (vl D / b)) = vl Q + pw k * (vl D / b) := by
      rw [Nat.mul_zero, Nat.add_zero] at hs
      exact hs
    rw [e1, Nat.mul_add b, Nat.mul_left_comm b (pw k)]
    conv => lhs; rw [← hdm, Nat.mul_add]
    omega
  · rw [vl_app, vl_app, hp, hpost0, Nat.mul_zero, Nat.add_zero, hv, Nat.mul_comm b]
    have : pw k * (vl D % b) + pw k ≤ pw k * b := by
      rw [← Nat.mul_succ]
      exact Nat.mul_le_mul (Nat.le_refl _) hmod
    omega
theorem Quo.start {a b : Nat} {R Q : List Nat} (hR : Dig R) (hRv : vl R = a) (hQ : Q = List.replicate ((dg a).length + 1 - (dg b).length) 0) (hb0 : 0 < b) : Quo a b ((dg a).length + 1 - (dg b).length) R Q := by
  subst hQ hRv
  refine ⟨hR, fun d hd => by have := List.eq_of_mem_replicate hd; omega, fun j d _ hd => ?_, by rw [vl_zeros, Nat.mul_zero]; rfl, ?_⟩
  · have := List.eq_of_mem_replicate (List.mem_of_getElem? hd)
    exact this
  · by_cases h : (dg b).length ≤ (dg (vl R)).length
    · have h1 : vl R < pw (dg (vl R)).length := dg_length.1 (Nat.le_refl _)
      have h0 : (dg b).length ≠ 0 := fun e => by have := dg_eq_nil.1 (List.length_eq_zero_iff.1 e); omega
      have h2 : pw ((dg b).length - 1) ≤ b := by
        refine Nat.le_of_not_lt fun hc => ?_
        have := dg_len_pw hc
        omega
      have h3 : pw (dg (vl R)).length = pw ((dg b).length - 1) * pw ((dg (vl R)).length + 1 - (dg b).length) := by rw [← pw_add]; congr 1; omega
      rw [h3] at h1
      exact Nat.lt_of_lt_of_le h1 (Nat.mul_le_mul h2 (Nat.le_refl _))
    · have h1 : (dg (vl R)).length + 1 - (dg b).length = 0 := by omega
      rw [h1, pw_zero, Nat.mul_one]
      refine Nat.lt_of_not_le fun hc => ?_
      have := dg_len_mono hc
      omega
theorem Quo.done {a b : Nat} {R Q : List Nat} (h : Quo a b 0 R Q) (hb0 : 0 < b) : tr Q = dg (a / b) ∧ tr R = dg (a % b) := by
  obtain ⟨h1, h2, h3, h4, h5⟩ := h
  rw [pw_zero, Nat.mul_one] at h5
  rw [tr_eq _ h1, tr_eq _ h2, h4, Nat.add_mul_div_left _ _ hb0, Nat.add_mul_mod_self_left, Nat.div_eq_of_lt h5, Nat.mod_eq_of_lt h5, Nat.zero_add]
  exact ⟨rfl, rfl⟩

/-! Division by a small number, the most significant digit first. -/
def divQL (q : Nat) : List Nat → List Nat
  | [] => []
  | d :: l => (vl l % q * 65536 + d) / q :: divQL q l
theorem divQL_length (q : Nat) : ∀ l, (divQL q l).length = l.length
  | [] => rfl
  | d :: l => by simp [divQL, divQL_length q l]
theorem vl_divQL {q : Nat} (hq : 0 < q) (l : List Nat) : vl (divQL q l) = vl l / q := by
  induction l with
  | nil => simp [divQL, vl]
  | cons d l ih =>
    rw [divQL, vl, vl, ih]
    have h1 := Nat.div_add_mod (vl l) q
    have e : d + 65536 * vl l = (vl l % q * 65536 + d) + q * (65536 * (vl l / q)) := by
      conv => lhs; rw [← h1]
      rw [Nat.mul_add, Nat.mul_left_comm]
      omega
    rw [e, Nat.add_mul_div_left _ _ hq]
theorem dig_divQL {q : Nat} (hq : 0 < q) (l : List Nat) (h : Dig l) : Dig (divQL q l) := by
  induction l with
  | nil => intro d hd; simp [divQL] at hd
  | cons d l ih =>
    intro x hx
    rcases List.mem_cons.1 hx with rfl | hx
    · have h1 := h.head
      have h2 := Nat.mod_lt (vl l) hq
      refine (Nat.div_lt_iff_lt_mul hq).2 ?_
      have h3 : (vl l % q + 1) * 65536 ≤ q * 65536 := Nat.mul_le_mul h2 (Nat.le_refl _)
      omega
    · exact ih h.tail x hx
theorem divQL_at (q : Nat) : ∀ (l : List Nat) (k d : Nat), l[k]? = some d → (divQL q l)[k]? = some ((vl (l.drop (k + 1)) % q * 65536 + d) / q)
  | [], k, d, h => by simp at h
  | e :: l, 0, d, h => by
    simp at h
    simp [divQL, h]
  | e :: l, k + 1, d, h => by
    simp only [List.getElem?_cons_succ] at h
    simp only [divQL, List.getElem?_cons_succ, List.drop_succ_cons]
    exact divQL_at q l k d h
theorem rem_step {q x V d : Nat} (h : V % q = x) : (d + 65536 * V) % q = (x * 65536 + d) % q := by
  have h1 := Nat.div_add_mod V q
  have e : d + 65536 * V = (x * 65536 + d) + q * (65536 * (V / q)) := by
    conv => lhs; rw [← h1, h]
    rw [Nat.mul_add, Nat.mul_left_comm]
    omega
  rw [e, Nat.add_mul_mod_self_left]

/-! Decimal digits. -/
theorem decV_cons (c : UInt8) (t : List UInt8) : decV (c :: t) = (c.toNat - 48) * 10 ^ t.length + decV t := by
  refine snoc_list (P := fun t => decV (c :: t) = (c.toNat - 48) * 10 ^ t.length + decV t) ?_ ?_ t
  · simp [decV]
  · intro t d ih
    rw [← List.cons_append, decV_snoc, decV_snoc, ih, List.length_append, List.length_singleton, Nat.pow_succ, Nat.mul_add, ← Nat.mul_assoc 10, Nat.mul_comm 10, Nat.mul_assoc _ 10, Nat.mul_comm 10 (10 ^ _)]
    omega
theorem decV_push {m g a : Nat} {t : List UInt8} (j : Nat) (h : (m * 10 ^ (j + 1) + g) * 10 ^ t.length + decV t = a) (c : UInt8) (hc : c.toNat = 48 + g % 10) :
    (m * 10 ^ j + g / 10) * 10 ^ (c :: t).length + decV (c :: t) = a := by
  rw [decV_cons, List.length_cons, hc, ← h, Nat.pow_succ, Nat.pow_succ, show 48 + g % 10 - 48 = g % 10 from by omega, ← Nat.add_assoc]
  congr 1
  rw [Nat.mul_comm (10 ^ t.length) 10, ← Nat.mul_assoc, ← Nat.add_mul]
  congr 1
  rw [Nat.add_mul, Nat.mul_assoc]
  omega
theorem strip_snoc (p : UInt8 → Bool) (l : List UInt8) (c : UInt8) : (l ++ [c]).dropWhile p = if l.dropWhile p = [] then (if p c then [] else [c]) else l.dropWhile p ++ [c] := by
  induction l with
  | nil => simp [List.dropWhile]; split <;> simp_all
  | cons x l ih =>
    rw [List.cons_append, List.dropWhile_cons, List.dropWhile_cons]
    by_cases hx : p x = true
    · rw [if_pos hx, if_pos hx]; exact ih
    · rw [if_neg hx, if_neg hx]; simp
theorem decS_eq_nil {n : Nat} : decS n = [] ↔ n = 0 := by
  constructor
  · intro h
    by_cases h0 : n = 0
    · exact h0
    · rw [decS_pos h0] at h
      simp at h
  · rintro rfl; exact decS_zero
theorem dec_char {c : UInt8} (h : isDec c = true) : UInt8.ofNat (48 + (c.toNat - 48)) = c := by
  simp [isDec] at h
  rw [show 48 + (c.toNat - 48) = c.toNat from by omega]
  simp
/-- What is behind the zeros at the beginning is the notation. -/
theorem strip_dec (t : List UInt8) : t.all isDec = true → t.dropWhile (fun c => c == 48) = decS (decV t) := by
  refine snoc_list (P := fun t => t.all isDec = true → t.dropWhile (fun c => c == 48) = decS (decV t)) ?_ ?_ t
  · intro _; rw [decV_nil, decS_zero]; rfl
  · intro t c ih h
    rw [List.all_append, Bool.and_eq_true] at h
    have hc : isDec c = true := by have := h.2; simpa using this
    have hc2 := hc
    simp [isDec] at hc2
    rw [strip_snoc, ih h.1, decV_snoc]
    by_cases h0 : decV t = 0
    · rw [if_pos (decS_eq_nil.2 h0), h0, Nat.mul_zero, Nat.zero_add]
      by_cases h48 : c = 48
      · subst h48
        rw [if_pos (by rfl)]
        exact decS_zero.symm
      · have hne : c.toNat ≠ 48 := fun e => h48 (by apply UInt8.toNat_inj.1; rw [e]; rfl)
        rw [if_neg (by simpa using h48), decS_pos (by omega), show (c.toNat - 48) / 10 = 0 from by omega, decS_zero, List.nil_append, Nat.mod_eq_of_lt (by omega), dec_char hc]
    · rw [if_neg (by rw [decS_eq_nil]; exact h0), decS_pos (n := 10 * decV t + (c.toNat - 48)) (by omega), show (10 * decV t + (c.toNat - 48)) / 10 = decV t from by omega, show (10 * decV t + (c.toNat - 48)) % 10 = c.toNat - 48 from by omega, dec_char hc]

/-! One more decimal digit. -/
def Ten (l : List Nat) (x k cy : Nat) (ds : List Nat) : Prop := ds.length = k ∧ Dig ds ∧ cy ≤ 9 ∧ vl ds + pw k * cy = 10 * vl (l.take k) + x
theorem Ten.start (l : List Nat) {x : Nat} (h : x ≤ 9) : Ten l x 0 x [] := ⟨rfl, by intro d hd; simp at hd, h, by simp [vl, pw_zero]⟩
theorem Ten.step {l ds : List Nat} {x k cy d : Nat} (h : Ten l x k cy ds) (hl : Dig l) (hd : l[k]? = some d) : Ten l x (k + 1) ((cy + 10 * d) / 65536) (ds ++ [(cy + 10 * d) % 65536]) := by
  obtain ⟨h1, h2, h3, h4⟩ := h
  have hdl := hl.at_ hd
  refine ⟨by simp [h1], h2.append (by intro y hy; simp at hy; omega), by omega, ?_⟩
  rw [vl_take hd, vl_app, h1, pw_succ, Nat.mul_assoc, Nat.add_assoc, ← Nat.mul_add]
  have e : vl [(cy + 10 * d) % 65536] + 65536 * ((cy + 10 * d) / 65536) = cy + 10 * d := by simp only [vl]; omega
  rw [e, Nat.mul_add, Nat.mul_add, Nat.mul_left_comm (pw k)]
  show _ = 10 * vl (l.take k) + 10 * (pw k * d) + x
  omega
theorem Ten.done {l ds : List Nat} {x k cy : Nat} (h : Ten l x k cy ds) (hk : l.length ≤ k) : vl (ds ++ [cy]) = 10 * vl l + x := by
  obtain ⟨h1, h2, h3, h4⟩ := h
  rw [List.take_of_length_le hk] at h4
  rw [vl_app, h1, ← h4]
  simp [vl]

/-! Powers by squares. -/
theorem expo_step {n L i : Nat} (h : i < L) : n / 2 ^ (L - (i + 1)) = 2 * (n / 2 ^ (L - i)) + n / 2 ^ (L - 1 - i) % 2 := by
  have e : L - i = (L - (i + 1)) + 1 := by omega
  rw [e, Nat.pow_succ, ← Nat.div_div_eq_div_mul, show L - 1 - i = L - (i + 1) from by omega]
  omega
theorem pow_two_mul (a e : Nat) : a ^ (2 * e) = a ^ e * a ^ e := by rw [Nat.two_mul, Nat.pow_add]
theorem limit_big {a e P : Nat} (h : ¬ a ^ e < pw 128) (he : e ≤ P) : limit (a ^ P) = .error 3 := by
  have ha : 0 < a := by
    refine Nat.pos_of_ne_zero fun h0 => h ?_
    subst h0
    rcases Nat.eq_zero_or_pos e with rfl | hp
    · rw [Nat.pow_zero]; exact Nat.lt_of_lt_of_le (by unfold pw; omega : 1 < pw 1) (pw_mono (by omega))
    · rw [Nat.zero_pow hp]; exact pw_pos _
  have h1 : a ^ e ≤ a ^ P := Nat.pow_le_pow_right ha he
  unfold limit
  rw [if_neg (by omega)]

end Go.Proofs.YtheadamdhjhnpaaDoor
