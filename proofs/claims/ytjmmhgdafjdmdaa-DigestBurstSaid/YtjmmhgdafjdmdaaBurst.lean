/-
  The body of the statement DigestBurst.
-/
import Derived.Test.YtjmmhgdafjdmdaaOpenLaw
namespace Go.Proofs.Ytjmmhgdafjdmdaa
open Go.RowKit

/-- The first L cells of block g are the bytes m. -/
def Chg (w : World) (g L : Nat) (m : List UInt8) : Prop := ∃ cur, Box w g 5 cur ∧ L ≤ cur.size ∧ cur.toList.take L = m.map bv

theorem Chg.of_own {w : World} {base : Nat} {v : Value} {m : List UInt8} (h : w.ownsRow base 5 1 v m.length (m.map bv)) (h0 : 0 < m.length) :
    ∃ g c, v = .slice (some ⟨g, 0, none⟩) m.length c ∧ base ≤ g ∧ m.length ≤ c ∧ Chg w g m.length m := by
  rcases h.2 with ⟨_, he⟩ | ⟨g, cap, cur, hv, hbase, hg, hc, _, hsz, htake⟩
  · omega
  · by_cases hfr : True
    · refine ⟨g, cap, hv, hbase, hc, cur, hg, by omega, ?_⟩
      simpa using htake
    · exact absurd trivial hfr

theorem Chg.cell {w : World} {g L : Nat} {m : List UInt8} (h : Chg w g L m) (hm : m.length = L) {j : Nat} (hj : j < L) : w.cell? ⟨g, j, none⟩ = some (bv (m.getD j 0)) ∧ w.frozen? ⟨g, j, none⟩ = false := by
  obtain ⟨cur, hb, hl, ht⟩ := h
  refine ⟨?_, hb.free j⟩
  rw [hb.cell, ← Array.getElem?_toList]
  have h1 : (cur.toList.take L)[j]? = (m.map bv)[j]? := by rw [ht]
  rw [List.getElem?_take, if_pos hj, List.getElem?_map] at h1
  rw [h1, List.getD_eq_getElem?_getD, List.getElem?_eq_getElem (by omega)]
  rfl
theorem Chg.put {w : World} {g L : Nat} {m : List UInt8} (h : Chg w g L m) (j : Nat) (x : UInt8) : Chg (w.setCell ⟨g, j, none⟩ (bv x)) g L (m.set j x) := by
  obtain ⟨cur, hb, hl, ht⟩ := h
  refine ⟨_, hb.put j (bv x), by simpa using hl, ?_⟩
  rw [List.map_set, ← ht, Array.toList_setIfInBounds, List.take_set]
theorem Chg.sl {w : World} {g L c : Nat} {m : List UInt8} (h : Chg w g L m) (hm : m.length = L) (hc : L ≤ c) : Sl w (g + 1) (.slice (some ⟨g, 0, none⟩) L c) m := by
  refine .inr ⟨⟨g, 0, none⟩, c, by rw [hm], by omega, fun _ => by simp, fun i u hu => ?_⟩
  have hi : i < L := by rw [← hm]; exact (List.getElem?_eq_some_iff.1 hu).1
  rw [plain_add, (h.cell hm hi).1, List.getD_eq_getElem?_getD, hu]
  rfl
theorem Chg.lt {w : World} {g L : Nat} {m : List UInt8} (h : Chg w g L m) : g < w.heap.size := by
  obtain ⟨cur, hb, _⟩ := h
  exact hb.lt

/-- What stands behind k bits. -/
def Behind (S : List UInt8) (F : Nat) (b : BitVec 32) (k : Nat) (m : List UInt8) (any : Bool) : Prop :=
  m.length = S.length ∧ any = decide (low k b ≠ 0#32) ∧ reg (~~~ 0#32) m = reg (~~~ 0#32) S ^^^ shn (8 * S.length - F) (low k b)

theorem Behind.start (S : List UInt8) (F : Nat) (b : BitVec 32) : Behind S F b 0 S false := by
  refine ⟨rfl, ?_, ?_⟩
  · rw [low_zero]; simp
  · rw [low_zero, shn_zero, BitVec.xor_zero]
theorem Behind.skip {S m : List UInt8} {F k : Nat} {b : BitVec 32} {any : Bool} (h : Behind S F b k m any) (hb : b.getLsbD k = false) : Behind S F b (k + 1) m any := by
  have e : low (k + 1) b = low k b := by rw [low_succ, hb]; simp
  unfold Behind
  rw [e]
  exact h
theorem Behind.flip {S m : List UInt8} {F k : Nat} {b : BitVec 32} {any : Bool} (h : Behind S F b k m any) (hb : b.getLsbD k = true) (hk : k < 32) (hF : F + k < 8 * S.length) : Behind S F b (k + 1) (flip m (F + k)) true := by
  obtain ⟨h1, h2, h3⟩ := h
  refine ⟨by rw [flip_length, h1], ?_, burst S F k b m hk hF h1 _ h3 hb⟩
  have hne : low (k + 1) b ≠ 0#32 := by
    intro e
    have := low_lsb (k + 1) b k
    rw [e, hb] at this
    simp at this
  rw [decide_eq_true hne]
theorem Behind.ne {S m : List UInt8} {F k : Nat} {b : BitVec 32} (h : Behind S F b k m true) : reg (~~~ 0#32) m ≠ reg (~~~ 0#32) S := by
  obtain ⟨h1, h2, h3⟩ := h
  intro e
  have hne : low k b ≠ 0#32 := by
    have := h2.symm
    simpa using this
  apply hne
  apply shn_inj (8 * S.length - F)
  have h4 := congrArg (fun x => reg (~~~ 0#32) S ^^^ x) h3
  simp only [xor_cancel] at h4
  rw [← h4, e, BitVec.xor_self]
theorem crc_ne {m S : List UInt8} (h : reg (~~~ 0#32) m ≠ reg (~~~ 0#32) S) : crc m ≠ crc S := by
  intro e
  apply h
  unfold crc inv at e
  have := congrArg (fun x : BitVec 32 => ~~~ x) e
  simpa using this

theorem xor_bit (x : UInt8) (q : Nat) (hq : q < 8) : bits .xor .u8 (x.toNat : Int) (IntKind.u8.wrap (2 ^ q)) = ((x ^^^ UInt8.ofNat (2 ^ q)).toNat : Int) := by
  have h2 : (2 : Nat) ^ q < 256 := Nat.lt_of_lt_of_le (Nat.pow_lt_pow_right (by omega) hq) (by decide)
  have e : IntKind.u8.wrap (2 ^ q) = ((2 ^ q : Nat) : Int) := by
    have e1 : ((2 : Int) ^ q) = ((2 ^ q : Nat) : Int) := by simp
    rw [e1]
    exact wraps_u8 _ (Int.natCast_nonneg _) (by exact_mod_cast h2)
  have e2 : (UInt8.ofNat (2 ^ q)).toNat = 2 ^ q := by rw [UInt8.toNat_ofNat']; exact Nat.mod_eq_of_lt h2
  rw [e, u8_xor _ _ x.toNat_lt h2, UInt8.toNat_xor, e2]

theorem rem_at (a : Int) (n : Nat) : ∃ F : Nat, a % (8 * ((n : Int) + 4)) = (F : Int) ∧ F < 8 * (n + 4) := by
  have h1 := Int.emod_nonneg a (show (8 * ((n : Int) + 4)) ≠ 0 by omega)
  have h2 := Int.emod_lt_of_pos a (show 0 < (8 * ((n : Int) + 4)) by omega)
  exact ⟨(a % (8 * ((n : Int) + 4))).toNat, by omega, by omega⟩

set_option maxRecDepth 100000 in
set_option maxHeartbeats 3200000 in
theorem digestBurst_any (A : Option Addr) (n c : Nat) (bs : List UInt8) (at_ : Int) (b : BitVec 32) (w : World) (h : Sl w w.heap.size (.slice A n c) bs) (hn : bs.length = n) (ha : 0 ≤ at_ ∧ at_ ≤ 65535) (h3 : n ≤ 300) (hb : b ≠ 0#32) :
    Calls Try.prog 8 #[.slice A n c, .int .u16 at_, .int .u32 (b.toNat : Int)] w fun e w' => e = .returned (.bool true) ∧ Below w.heap.size w w' := by
  have HN := Lib.hid hn
  clear hn
  go_enter Try.func8, Try.ntmps8
  go_wp2_with fail
  refine (awake_any _).mono ?_
  rintro e w1 ⟨rfl, k1⟩
  have t1 : decide (300 < (n : Int)) = false := by simp; omega
  have t2 : ((b.toNat : Int) == 0) = false := by
    have : b.toNat ≠ 0 := fun e => hb (BitVec.eq_of_toNat_eq (by simpa using e))
    simpa using this
  have HB := Lib.hid hb
  clear hb
  go_wp2_with fail
  refine (sealed_out A n c bs w _ k1 (h.from_ k1) HN.out (by omega)).mono ?_
  rintro e w2 ⟨A2, c2, rfl, s2, k2, b2⟩
  have hL : (seal_ bs).length = n + 4 := by rw [seal_length, HN.out]
  obtain ⟨S, hS⟩ : ∃ S, S = seal_ bs := ⟨_, rfl⟩
  rw [← hS] at s2 hL ⊢
  rw [hL] at s2 ⊢
  have HS := Lib.hid hS
  have HL := Lib.hid hL
  clear hS hL t1 t2
  go_wp2_with fail
  refine (behind_any _ _ S [] _ 0 _ s2 (Sl.nil_ _ _) (Nat.le_refl _) (by omega) (by have := HL.out; simp; omega)).mono ?_
  rintro e w3 ⟨r, rfl, hown, b3⟩
  rw [List.append_nil] at hown
  obtain ⟨g, cg, rfl, hg, hcg, hchg⟩ := Chg.of_own hown (by have := HL.out; omega)
  rw [HL.out] at hcg hchg ⊢
  clear hown
  obtain ⟨F, hF, hF2⟩ := rem_at at_ n
  have HF := Lib.hid hF
  clear hF
  go_wp2
  rw [HF.out]
  have k3 := k2.trans (b3.mono k2.size)
  have hg2 : w.heap.size ≤ g := Nat.le_trans k2.size hg
  have H3 := Lib.hid h3
  go_loopw [10, 11] (fun any_ k_ wr => ∃ (k : Nat) (m : List UInt8) (any : Bool), k ≤ 32 ∧ F + k ≤ 8 * (n + 4) ∧ any_ = .bool any ∧ k_ = .int .i64 (k : Int) ∧ Behind S F b k m any ∧ Chg wr g (n + 4) m ∧ Below w2.heap.size w2 wr) (fun _ k_ _ => 32 - (intOf k_).toNat)
  case atStart => exact ⟨0, S, false, by omega, by omega, rfl, rfl, Behind.start S F b, hchg, b3⟩
  case round =>
    obtain ⟨k, m, any, hk, hFk, rfl, rfl, hbeh, hch, hbel⟩ := hrel
    have hml : m.length = n + 4 := by rw [hbeh.1, HL.out]
    by_cases hk32 : k < 32
    · have t3 : decide ((k : Int) < 32) = true := by simp; omega
      by_cases hF8 : F + k < 8 * (n + 4)
      · have t4 : decide ((F : Int) + (k : Int) < 8 * ((n : Int) + 4)) = true := by simp; omega
        have htest := bit_test b k
        cases hbit : b.getLsbD k with
        | false =>
          rw [hbit] at htest
          have HSK := Lib.hid (hbeh.skip hbit)
          clear hbit hbeh
          go_wp2
          go_roundw
          case rel => exact ⟨k + 1, m, any, by omega, by omega, rfl, by go_num, HSK.out, hch, hbel⟩
          case measure => simp [intOf]; omega
        | true =>
          rw [hbit] at htest
          have HFL := Lib.hid (hbeh.flip hbit hk32 (by rw [HL.out]; exact hF8))
          clear hbit hbeh
          have hj : (F + k) / 8 < n + 4 := by omega
          have hc0 := (hch.cell hml hj).1
          have hf0 := (hch.cell hml hj).2
          obtain ⟨j, hjj⟩ : ∃ j, j = (F + k) / 8 := ⟨_, rfl⟩
          obtain ⟨q, hqq⟩ : ∃ q, q = (F + k) % 8 := ⟨_, rfl⟩
          have hdiv : ((F : Int) + (k : Int)) / 8 = (j : Int) := by omega
          have hmod : ((F : Int) + (k : Int)) % 8 = (q : Int) := by omega
          have hput := hch.put ((F + k) / 8) ((m.getD ((F + k) / 8) 0) ^^^ UInt8.ofNat (2 ^ ((F + k) % 8)))
          rw [← hjj] at hj hc0 hf0 hput
          rw [← hqq] at hput
          have hq8 : q < 8 := by omega
          have hflip : flip m (F + k) = m.set j (m.getD j 0 ^^^ UInt8.ofNat (2 ^ q)) := by unfold flip; rw [← hjj, ← hqq]
          obtain ⟨x, hx⟩ : ∃ x, x = m.getD j 0 := ⟨_, rfl⟩
          rw [← hx] at hc0 hput hflip
          have HP := Lib.hid hput
          have HFF := Lib.hid hflip
          have HX := Lib.hid hx
          have HJ := Lib.hid hjj
          have HQ := Lib.hid hqq
          clear hput hflip hx hjj hqq
          simp only [bv] at hc0
          have hj0 : (0 : Int) ≤ (j : Int) := by omega
          have hj1 : (j : Int) < (n : Int) + 4 := by omega
          have hq0 : (0 : Int) ≤ (q : Int) := by omega
          have hq1 : (q : Int) < 8 := by omega
          have hdiv2 : ((F : Int) + (k : Int)).tdiv 8 = (j : Int) := by rw [Int.tdiv_eq_ediv_of_nonneg (by omega)]; exact hdiv
          have hmod2 : ((F : Int) + (k : Int)).tmod 8 = (q : Int) := by rw [Int.tmod_eq_emod_of_nonneg (by omega)]; exact hmod
          have hsum : IntKind.i64.wrap ((F : Int) + (k : Int)) = (F : Int) + (k : Int) := wraps_i64 _ (by omega) (by omega)
          have hwj : IntKind.i64.wrap (j : Int) = (j : Int) := wraps_i64 _ (by omega) (by omega)
          have hwq : IntKind.i64.wrap (q : Int) = (q : Int) := wraps_i64 _ (by omega) (by omega)
          go_wp2
          go_region_law (fail)
          clear hwj hwq hsum hdiv2 hmod2 hdiv hmod
          rw [xor_bit x q hq8]
          go_wp2
          go_roundw
          case rel => exact ⟨k + 1, _, true, by omega, by omega, rfl, by go_num, HFL.out, by rw [HFF.out]; exact HP.out, (hbel.setCell hg _).drew⟩
          case measure => simp [intOf]; omega
      · have t4 : decide ((F : Int) + (k : Int) < 8 * ((n : Int) + 4)) = false := by simp; omega
        have hbelw := k2.trans (hbel.mono k2.size)
        cases any with
        | false =>
          go_wp2
          go_ret
          exact ⟨rfl, hbelw⟩
        | true =>
          have HNE := Lib.hid hbeh.ne
          have ho := open_changed (l := bs) (m := m) (by omega) (by rw [← HS.out]; exact HNE.out)
          have HO := Lib.hid ho
          have hsl := hch.sl hml hcg
          have hslw : Sl wr wr.heap.size (.slice (some ⟨g, 0, none⟩) (n + 4) cg) m := hsl.more hch.lt
          have hcne := crc_ne HNE.out
          have hne : (((crc m).toNat : Int) != ((crc S).toNat : Int)) = true := by
            have : (crc m).toNat ≠ (crc S).toNat := fun e => hcne (BitVec.eq_of_toNat_eq e)
            simp; omega
          have HNN := Lib.hid hne
          have HML := Lib.hid hml
          clear ho hcne hne hml hbeh
          go_wp2_with fail
          refine (unseal_out _ _ _ m [] 6 HO.out w _ hbelw hslw HML.out (by omega)).mono ?_
          rintro e w4 ⟨A4, c4, rfl, s4, k4, b4⟩
          go_wp2_with fail
          refine (of_any _ m _ _ (hslw.up b4) (Nat.le_refl _) (by have := HML.out; omega)).mono ?_
          rintro e w5 ⟨rfl, b5⟩
          have k5 := k4.trans (b5.mono k4.size)
          have ssw : Sl w5 w5.heap.size (.slice A2 (n + 4) c2) S := ((s2.up hbel).up b4).up b5
          go_wp2_with fail
          refine (of_any _ S _ _ ssw (Nat.le_refl _) (by have := HL.out; omega)).mono ?_
          rintro e w6 ⟨rfl, b6⟩
          have hne := HNN.out
          go_wp2
          go_ret
          exact ⟨rfl, k5.trans (b6.mono k5.size)⟩
    · have t3 : decide ((k : Int) < 32) = false := by simp; omega
      have hbelw := k2.trans (hbel.mono k2.size)
      cases any with
      | false =>
        go_wp2
        go_ret
        exact ⟨rfl, hbelw⟩
      | true =>
        have HNE := Lib.hid hbeh.ne
        have ho := open_changed (l := bs) (m := m) (by omega) (by rw [← HS.out]; exact HNE.out)
        have HO := Lib.hid ho
        have hsl := hch.sl hml hcg
        have hslw : Sl wr wr.heap.size (.slice (some ⟨g, 0, none⟩) (n + 4) cg) m := hsl.more hch.lt
        have hcne := crc_ne HNE.out
        have hne : (((crc m).toNat : Int) != ((crc S).toNat : Int)) = true := by
          have : (crc m).toNat ≠ (crc S).toNat := fun e => hcne (BitVec.eq_of_toNat_eq e)
          simp; omega
        have HNN := Lib.hid hne
        have HML := Lib.hid hml
        clear ho hcne hne hml hbeh
        go_wp2_with fail
        refine (unseal_out _ _ _ m [] 6 HO.out w _ hbelw hslw HML.out (by omega)).mono ?_
        rintro e w4 ⟨A4, c4, rfl, s4, k4, b4⟩
        go_wp2_with fail
        refine (of_any _ m _ _ (hslw.up b4) (Nat.le_refl _) (by have := HML.out; omega)).mono ?_
        rintro e w5 ⟨rfl, b5⟩
        have k5 := k4.trans (b5.mono k4.size)
        have ssw : Sl w5 w5.heap.size (.slice A2 (n + 4) c2) S := ((s2.up hbel).up b4).up b5
        go_wp2_with fail
        refine (of_any _ S _ _ ssw (Nat.le_refl _) (by have := HL.out; omega)).mono ?_
        rintro e w6 ⟨rfl, b6⟩
        have hne := HNN.out
        go_wp2
        go_ret
        exact ⟨rfl, k5.trans (b6.mono k5.size)⟩

set_option maxRecDepth 100000 in
set_option maxHeartbeats 800000 in
theorem digestBurst_no (A : Option Addr) (n c : Nat) (at_ : Int) (b : BitVec 32) (w : World) (hl : 300 < n ∨ b = 0#32) :
    Calls Try.prog 8 #[.slice A n c, .int .u16 at_, .int .u32 (b.toNat : Int)] w fun e w' => e = .returned (.bool true) ∧ Below w.heap.size w w' := by
  go_enter Try.func8, Try.ntmps8
  go_wp2_with fail
  refine (awake_any _).mono ?_
  rintro e w1 ⟨rfl, k1⟩
  by_cases h3 : n ≤ 300
  · obtain rfl : b = 0#32 := hl.resolve_left (by omega)
    have t1 : decide (300 < (n : Int)) = false := by simp; omega
    clear hl
    go_wp2
    go_ret
    exact ⟨rfl, k1⟩
  · have t1 : decide (300 < (n : Int)) = true := by simp; omega
    clear hl
    go_wp2
    go_ret
    exact ⟨rfl, k1⟩

theorem digestBurst_at (A : Option Addr) (n c : Nat) (bs : List UInt8) (at_ : Int) (b : BitVec 32) (w : World) (h : Sl w w.heap.size (.slice A n c) bs) (hn : bs.length = n) (ha : 0 ≤ at_ ∧ at_ ≤ 65535) :
    Calls Try.prog 8 #[.slice A n c, .int .u16 at_, .int .u32 (b.toNat : Int)] w fun e w' => e = .returned (.bool true) ∧ Below w.heap.size w w' := by
  by_cases h3 : n ≤ 300
  · by_cases hb : b = 0#32
    · exact digestBurst_no A n c at_ b w (.inr hb)
    · exact digestBurst_any A n c bs at_ b w h hn ha h3 hb
  · exact digestBurst_no A n c at_ b w (.inl (by omega))

end Go.Proofs.Ytjmmhgdafjdmdaa
