/-
  The library's sort of a short row of strings, by the closure of the program's Sort.
  The library's stable sort of at most eight strings.
  The program's Sort.
-/
import Derived.Test.YtafnjbmeponobaaGreatDoorPkBL
import Derived.BigQuiet
import Derived.Test.YtafnjbmeponobaaGreatDoorPkBB
import Derived.Deep.RegionHeld3
import Derived.Lib.SliceRun
namespace Go.Proofs.YtafnjbmeponobaaGreatDoor
open Go.RowKit Go.Maps

theorem RowS.drewN {w : World} {g cap : Nat} {L : List (List UInt8)} (h : RowS w g cap L) (n : Nat) : RowS (w.drewN n) g cap L := h
theorem RowS.put2 {w : World} {g cap : Nat} {L : List (List UInt8)} {cu : Array Value} (hb : Box w g 9 cu) (hc : cu.size = cap) (i : Nat) (x : Value) (j : Nat) (y : Value)
    (ht : ((cu.setIfInBounds i x).setIfInBounds j y).toList.take L.length = L.map sv) : RowS ((w.setCell ⟨g, i, none⟩ x).setCell ⟨g, j, none⟩ y) g cap L :=
  ⟨_, (hb.put i x).put j y, by simp [hc], ht⟩

set_option maxRecDepth 100000 in
set_option maxHeartbeats 6400000 in
theorem insertS_any (g kc B b kp N : Nat) (D : DataW Value) (t : List RuleL) (L0 L : List (List UInt8)) (m c : Nat) (w : World) (hK : Keys w B b kp N D t L0) (hL : ∀ s ∈ L, s ∈ L0) (hls : ∀ s ∈ L0, s.length ≤ 1000000) (hgd : ∀ s ∈ L0, goodT t s = true)
    (hrow : RowS w g kc L) (hm : L.length = m) (hm1 : 1 ≤ m) (hsz : m ≤ 1000) (hgb : g < b) (hgk : g < kp) (hgB : g < B) :
    Calls Tryz.prog 104 #[.slice (some ⟨g, 0, none⟩) m c, .int .i64 0, .int .i64 (m : Int), .func (.func 60) #[] #[.pointer (some ⟨kp, 0, none⟩)]] w fun e w' => e = .returned (.tuple #[]) ∧ RowS w' g kc (sortS (ltT t) L) ∧ w.grownBy w' (some g) := by
  have HM := Lib.hid hm
  have HR0 := Lib.hid hrow
  have HKy : Hid (∀ W, w.grownBy W (some g) → Keys W B b kp N D t L0) := Lib.hid fun W hg => hK.grown hg (by intro e; injection e with e; omega) (by intro e; injection e with e; omega) (fun g' e => by injection e with e; omega)
  have HC0 := Lib.hid (fun (x y : List UInt8) (hx : x ∈ L) (hy : y ∈ L) (W : World) (hg : w.grownBy W (some g)) => sort1_any x y B b kp N D t L0 W (HKy.out W hg) (hL x hx) (hL y hy) hls hgd)
  have HMem : Hid (∀ k, ∀ s ∈ sortS (ltT t) (L.take k), s ∈ L) := Lib.hid fun k s hs => List.mem_of_mem_take (sortS_mem _ hs)
  clear hm hrow hK hL hls hgd HKy
  go_enter Tryz.func104, Tryz.ntmps104
  go_wp2
  go_loopw [8] (fun s wr => ∃ (i : Nat), s = .int .i64 (i : Int) ∧ 1 ≤ i ∧ i ≤ m ∧ Hid (RowS wr g kc (sortS (ltT t) (L.take i) ++ L.drop i)) ∧ w.grownBy wr (some g)) (fun s _ => m - (intOf s).toNat)
  case atStart => exact ⟨1, by go_num, Nat.le_refl _, hm1, Lib.hid (HR0.out.same (by
    obtain ⟨x, hx⟩ : ∃ x, L[0]? = some x := ⟨_, List.getElem?_eq_getElem (by have := HM.out; omega)⟩
    have h2 := take_next hx
    rw [List.take_zero, List.nil_append] at h2
    rw [h2, sortS_one, ← h2, List.take_append_drop])), grown_refl _ _⟩
  case round =>
    obtain ⟨i, rfl, hi1, him, HR, hg⟩ := hrel
    by_cases hlt : i < m
    · have t1 : decide ((i : Int) < (m : Int)) = true := by simp; omega
      have t1' : decide (i < m) = true := by simpa using hlt
      obtain ⟨y, hy⟩ : ∃ a, L[i]? = some a := ⟨_, List.getElem?_eq_getElem (by have := HM.out; omega)⟩
      have hyl := List.mem_of_getElem? hy
      have hdr : L.drop i = y :: L.drop (i + 1) := by
        obtain ⟨h1, h2⟩ := List.getElem?_eq_some_iff.1 hy
        rw [List.drop_eq_getElem_cons h1, h2]
      have HSo : Hid (sortS (ltT t) (L.take (i + 1)) = insS (ltT t) (sortS (ltT t) (L.take i)) y) := Lib.hid (by rw [take_next hy, sortS_snoc])
      have hSl : (sortS (ltT t) (L.take i)).length = i := by rw [sortS_len, List.length_take]; have := HM.out; omega
      have HSm : Hid (∀ s ∈ sortS (ltT t) (L.take i), s ∈ L) := Lib.hid (HMem.out i)
      obtain ⟨S, hS⟩ : ∃ S, sortS (ltT t) (L.take i) = S := ⟨_, rfl⟩
      obtain ⟨T, hT⟩ : ∃ T, L.drop (i + 1) = T := ⟨_, rfl⟩
      obtain ⟨S', hS'⟩ : ∃ S', sortS (ltT t) (L.take (i + 1)) = S' := ⟨_, rfl⟩
      have HR1 : Hid (RowS wr g kc (S ++ y :: ([] ++ T))) := Lib.hid (HR.out.same (by rw [hdr, hS, hT]; rfl))
      have HK : Hid (∀ W, RowS W g kc (S' ++ T) → RowS W g kc (sortS (ltT t) (L.take (i + 1)) ++ L.drop (i + 1))) := Lib.hid (by rw [hS', hT]; exact fun _ h => h)
      rw [hS] at HSo hSl HSm
      rw [hS'] at HSo
      clear hy hdr hS hT hS' HR
      obtain ⟨w4, hw4⟩ : ∃ x : World, x = wr := ⟨_, rfl⟩
      subst hw4
      go_wp2
      go_loopw [9] (fun s wr => ∃ (j : Nat) (S1 S2 : List (List UInt8)), s = .int .i64 (j : Int) ∧ Hid (S' = insS (ltT t) S1 y ++ S2) ∧ Hid (j = S1.length) ∧ j ≤ i ∧ Hid (∀ s ∈ S1, s ∈ L) ∧ Hid (RowS wr g kc (S1 ++ y :: (S2 ++ T))) ∧ w.grownBy wr (some g)) (fun s _ => (intOf s).toNat)
      case atStart => exact ⟨i, S, [], rfl, Lib.hid (by rw [List.append_nil]; exact HSo.out), Lib.hid hSl.symm, Nat.le_refl _, HSm, HR1, hg⟩
      case round =>
        obtain ⟨j, S1, S2, rfl, HSS, Hjl, hji, HSm1, HR2, hg2⟩ := hrel
        have hjl := Hjl.out
        by_cases hj0 : 0 < j
        · have hne : S1 ≠ [] := fun e => by rw [e] at hjl; simp at hjl; omega
          obtain ⟨S0, x, hS1⟩ : ∃ S0 x, S1 = S0 ++ [x] := ⟨S1.dropLast, S1.getLast hne, (List.dropLast_concat_getLast hne).symm⟩
          subst hS1
          obtain ⟨p, rfl⟩ : ∃ p, j = p + 1 := ⟨j - 1, by omega⟩
          have hpl : p = S0.length := by rw [List.length_append, List.length_singleton] at hjl; omega
          have hxl := HSm1.out x (by simp)
          have HSm0 : Hid (∀ s ∈ S0, s ∈ L) := Lib.hid fun s hs => HSm1.out s (by simp [hs])
          have t2 : decide ((0 : Int) < ((p + 1 : Nat) : Int)) = true := decide_eq_true (by omega)
          have t2a : decide ((0 : Int) < (p : Int) + 1) = true := decide_eq_true (by omega)
          have t2b : decide (0 < p + 1) = true := by simp
          have t3 : (0 : Int) < (p : Int) + 1 := by omega
          have ep : ((p + 1 : Nat) : Int) - 1 = (p : Int) := by omega
          have z0 : (p : Int) < (m : Int) := by omega
          have z1 : ((p + 1 : Nat) : Int) < (m : Int) := by omega
          have z2 : (p : Int) + 1 < (m : Int) := by omega
          obtain ⟨cu, hbx, hcs, hT⟩ := HR2.out
          obtain ⟨NN, hNN⟩ : ∃ NN, (S0 ++ [x] ++ y :: (S2 ++ T)).length = NN := ⟨_, rfl⟩
          have HNN : Hid ((S0 ++ y :: ((x :: S2) ++ T)).length = NN) := Lib.hid (by rw [← hNN]; simp)
          rw [hNN] at hT
          have hT1 : cu.toList.take NN = (S0 ++ x :: (y :: (S2 ++ T))).map sv := by rw [hT]; simp
          have dx : wr.cell? ⟨g, p, none⟩ = some (.string (str x)) := (hbx.cell _).trans (swapS_fst hT1 hpl)
          have dy : wr.cell? ⟨g, p + 1, none⟩ = some (.string (str y)) := (hbx.cell _).trans (swapS_snd hT1 hpl)
          have HC := Lib.hid (fun q => HC0.out y x hyl hxl (wr.drewN q) (grown_drewN hg2 q))
          obtain ⟨K, hK⟩ : ∃ K, nCmp t y x = K := ⟨_, rfl⟩
          have hlt8 : ltT t y x = decide (K < 0) := by unfold ltT; rw [hK]
          rw [hK] at HC
          clear hK hne HR2 hNN hT Hjl hjl hj0
          by_cases hK : K < 0
          · have t4 : decide (K < 0) = true := decide_eq_true hK
            have HSS2 : Hid (S' = insS (ltT t) S0 y ++ (x :: S2)) := Lib.hid (by rw [HSS.out, insS_yes _ (by rw [hlt8]; exact t4)]; simp)
            have HSw : Hid (((cu.setIfInBounds (p + 1) (sv x)).setIfInBounds p (sv y)).toList.take (S0 ++ y :: ((x :: S2) ++ T)).length = (S0 ++ y :: ((x :: S2) ++ T)).map sv) := Lib.hid (by rw [HNN.out]; exact swapS_back hT1 hpl)
            have Hpl := Lib.hid hpl
            have hpi : p ≤ i := by omega
            have f0 : wr.frozen? ⟨g, p, none⟩ = false := hbx.free _
            have f1 : wr.frozen? ⟨g, p + 1, none⟩ = false := hbx.free _
            have hne2 : p ≠ p + 1 := by omega
            clear hlt8 hT1 hpl HNN HSS HSm1 hxl hK
            go_wp2
            go_big_quiet (first | (go_at_call 60; exact Calls.quiet_of (HC.out _)))
            go_wp2
            go_region
            all_goals
              go_wp2
              go_roundw
              case rel => exact ⟨p, S0, x :: S2, by go_num, HSS2, Hpl, hpi, HSm0, Lib.hid (RowS.put2 (hbx.drewN _) hcs (p + 1) _ p _ HSw.out), grown_set (grown_set (grown_drewN hg2 _) _ _) _ _⟩
              case measure => first | (simp [intOf]; done) | (simp [intOf]; omega)
          · have t4 : decide (K < 0) = false := decide_eq_false hK
            have HE : Hid (RowS wr g kc (S' ++ T)) := Lib.hid (⟨cu, hbx, hcs, by
              have e1 : S' ++ T = S0 ++ x :: (y :: (S2 ++ T)) := by rw [HSS.out, insS_no _ (by rw [hlt8]; exact t4)]; simp
              have e2 : (S' ++ T).length = NN := by rw [← HNN.out, e1]; simp
              rw [e2, e1]; exact hT1⟩)
            have HE2 := Lib.hid (HK.out _ HE.out)
            clear hlt8 hT1 hpl HNN HSS HSm1 hxl HSm0 hcs hK
            go_wp2
            go_big_quiet (first | (go_at_call 60; exact Calls.quiet_of (HC.out _)))
            go_wp2
            go_roundw
            case rel => exact ⟨i + 1, by go_num, by omega, by omega, Lib.hid (HE2.out.drewN _), grown_drewN hg2 _⟩
            case measure => simp [intOf]; omega
        · obtain rfl : j = 0 := by omega
          have t2 : decide ((0 : Int) < ((0 : Nat) : Int)) = false := by simp
          have hS1 : S1 = [] := List.length_eq_zero_iff.1 hjl.symm
          have HE2 := Lib.hid (HK.out _ (HR2.out.same (by rw [HSS.out, hS1]; rfl)))
          clear hS1 hj0 hjl Hjl HR2 HSS HSm1
          go_wp2
          go_big_quiet (fail)
          go_wp2
          go_roundw
          case rel => exact ⟨i + 1, by go_num, by omega, by omega, Lib.hid (HE2.out.drewN _), grown_drewN hg2 _⟩
          case measure => simp [intOf]; omega
    · obtain rfl : i = m := by omega
      have t1 : decide ((i : Int) < (i : Int)) = false := by simp
      have t1' : decide (i < i) = false := by simp
      have HE : Hid (RowS wr g kc (sortS (ltT t) L)) := Lib.hid (HR.out.same (by
        rw [List.take_of_length_le (by rw [HM.out]; exact Nat.le_refl _), List.drop_of_length_le (by rw [HM.out]; exact Nat.le_refl _), List.append_nil]))
      go_wp2
      go_end0
      exact ⟨rfl, HE.out, hg⟩

end Go.Proofs.YtafnjbmeponobaaGreatDoor

namespace Go.Proofs.YtafnjbmeponobaaGreatDoor
open Go.RowKit Go.Maps

set_option maxRecDepth 100000 in
set_option maxHeartbeats 6400000 in
theorem insertS_none (A : Option Addr) (c : Nat) (fv : Value) (w : World) :
    Calls Tryz.prog 104 #[.slice A 0 c, .int .i64 0, .int .i64 0, fv] w fun e w' => e = .returned (.tuple #[]) ∧ w' = w := by
  go_enter Tryz.func104, Tryz.ntmps104
  go_wp2
  go_loopw [8] (fun s wr => s = .int .i64 1 ∧ wr = w) (fun _ _ => 0)
  case atStart => exact ⟨rfl, rfl⟩
  case round =>
    obtain ⟨rfl, rfl⟩ := hrel
    go_wp2
    go_end0
    exact ⟨rfl, rfl⟩

set_option maxRecDepth 100000 in
set_option maxHeartbeats 6400000 in
theorem stableS_of (A : Option Addr) (m c : Nat) (fv : Value) (Q : World → Prop) (w : World) (hm : m ≤ 8)
    (HI : Calls Tryz.prog 104 #[.slice A m c, .int .i64 0, .int .i64 (m : Int), fv] w fun e w' => e = .returned (.tuple #[]) ∧ Q w') :
    Calls Tryz.prog 85 #[.slice A m c, .int .i64 (m : Int), fv] w fun e w' => e = .returned (.tuple #[]) ∧ Q w' := by
  have HI := Lib.hid HI
  have q1 : decide ((20 : Int) ≤ (m : Int)) = false := by simp; omega
  have q2 : decide ((20 : Int) < (m : Int)) = false := by simp; omega
  have q1n : decide (20 ≤ m) = false := by simp; omega
  have q2n : decide (20 < m) = false := by simp; omega
  go_enter Tryz.func85, Tryz.ntmps85
  go_wp2
  go_loopw [7, 8] (fun s7 s8 wr => s7 = .int .i64 0 ∧ s8 = .int .i64 20 ∧ wr = w) (fun _ _ _ => 0)
  case atStart => exact ⟨rfl, rfl, rfl⟩
  case round =>
    obtain ⟨rfl, rfl, rfl⟩ := hrel
    go_wp2_with fail
    refine HI.out.mono ?_
    rintro e w1 ⟨rfl, hq⟩
    have HQ := Lib.hid hq
    clear hq
    go_wp2
    go_loopw [6] (fun s6 wr2 => s6 = .int .i64 20 ∧ wr2 = w1) (fun _ _ => 0)
    case atStart => exact ⟨rfl, rfl⟩
    case round =>
      obtain ⟨rfl, rfl⟩ := hrel
      go_wp2
      go_end0
      exact ⟨rfl, HQ.out⟩

set_option maxRecDepth 100000 in
set_option maxHeartbeats 6400000 in
theorem sortS_of (A : Option Addr) (m c : Nat) (fv : Value) (Q : World → Prop) (w : World)
    (HI : Calls Tryz.prog 85 #[.slice A m c, .int .i64 (m : Int), fv] w fun e w' => e = .returned (.tuple #[]) ∧ Q w') :
    Calls Tryz.prog 59 #[.slice A m c, fv] w fun e w' => e = .returned (.tuple #[]) ∧ Q w' := by
  have HI := Lib.hid HI
  go_enter Tryz.func59, Tryz.ntmps59
  go_wp2_with fail
  refine HI.out.mono ?_
  rintro e w1 ⟨rfl, hq⟩
  have HQ := Lib.hid hq
  clear hq
  go_wp2
  go_end0
  exact ⟨rfl, HQ.out⟩

end Go.Proofs.YtafnjbmeponobaaGreatDoor

namespace Go.Proofs.YtafnjbmeponobaaGreatDoor
open Go.RowKit Go.Maps

set_option maxRecDepth 20000 in
set_option maxHeartbeats 3200000 in
theorem cloneS_any (A : Option Addr) (m c : Nat) (l : List (List UInt8)) (w : World) (hl : Arr sv w w.heap.size (.slice A m c) l) (hm : m ≤ 1000000) :
    Calls Tryz.prog 57 #[.slice A m c] w fun e w' => ∃ A2 c2, e = .returned (.slice A2 m c2) ∧ w'.ownsRow w.heap.size 9 1 (.slice A2 m c2) l.length (l.map sv) ∧ Below w.heap.size w w' := by
  have hlen := hl.len
  have q22 : ∀ (w : World) (a : Option Addr) (n c n' c' : Nat), (binOp .eql 43 (.slice a n c) (.slice none n' c')).run Tryz.prog w = .ok (.bool a.isNone) w := fun w a n c n' c' => Lib.run_eql_slice_nil w _ _ a n c n' c' Tryz.underlying43
  cases A with
  | none =>
    have h0 : m = 0 ∧ c = 0 ∧ l = [] := by
      rcases hl with ⟨e, h⟩ | ⟨a, c', e, _⟩
      · injection e with _ e2 e3
        exact ⟨e2, e3, h⟩
      · cases e
    obtain ⟨rfl, rfl, rfl⟩ := h0
    clear hl hlen
    go_enter Tryz.func57, Tryz.ntmps57
    go_wp2
    go_ret
    exact ⟨_, _, rfl, World.ownsRow_nil _ _ _ _, Below.refl _ _⟩
  | some a =>
    have hown0 : (w.alloc (.cells #[] 9)).ownsRow w.heap.size 9 1 (.slice (some ⟨w.heap.size, 0, none⟩) 0 0) ([] : List (List UInt8)).length (([] : List (List UInt8)).map sv) :=
      ⟨by simp, .inr ⟨w.heap.size, 0, #[], rfl, Nat.le_refl _, by simpa using heap_alloc_new w (.cells #[] 9), Nat.le_refl _, by unfold maxLen; omega, by simp, by simp⟩⟩
    have hA1 : Below w.heap.size w (w.alloc (.cells #[] 9)) := (Below.refl _ _).alloc (Nat.le_refl _) _
    have hl1 := hl.up hA1
    have hsz1 : w.heap.size ≤ (w.alloc (.cells #[] 9)).heap.size := hA1.size
    have hln : ([] : List (List UInt8)).length + l.length ≤ 1000000000000 := by simp; omega
    have HLn := Lib.hid hlen
    clear hl hlen
    go_enter Tryz.func57, Tryz.ntmps57
    go_wp2_with (at_builtin; refine append_arr (val := sv) 43 9 (.string ⟨#[]⟩) 16 Tryz.underlying43 info_string rfl (by decide) one_sv (w.alloc (.cells #[] 9)) rfl (.tmp 5) (.tmp 6) rfl w.heap.size _ (.slice (some ⟨w.heap.size, 0, none⟩) 0 0) [] rfl hown0 l _ rfl hl1 hln hsz1 ?_; intro v2 w2 hown2 hb2)
    rw [List.nil_append] at hown2
    have hbW : Below w.heap.size w w2 := hA1.trans hb2
    have hA2 := Arr.of_own hown2
    obtain ⟨A2, c2, hv2⟩ := hA2.form
    subst hv2
    have HO := Lib.hid hown2
    rw [HLn.out] at HO
    rw [HLn.out]
    clear hown2 hown0 hl1 hA2 hln
    go_wp2
    go_ret
    exact ⟨_, _, rfl, HO.out, hbW⟩

set_option maxRecDepth 20000 in
set_option maxHeartbeats 3200000 in
theorem allEnc_any (A : Option Addr) (m c : Nat) (l : List (List UInt8)) (w : World) (hS : Spans w) (hl : Arr sv w w.heap.size (.slice A m c) l) (hm : m ≤ 1000000) (hls : ∀ s ∈ l, s.length ≤ 500) :
    Calls Tryz.prog 58 #[.slice A m c] w fun e w' => e = .returned (.bool (l.all fun s => (decR s).isSome)) ∧ Below w.heap.size w w' := by
  have HM := Lib.hid hl.len
  have HEn := Lib.hid (fun (s : List UInt8) (hs : s ∈ l) (W : World) (hW : Below w.heap.size w W) => prEncoded_any s W (hS.below hW) (by have := hls s hs; omega))
  obtain ⟨R, hR⟩ : ∃ R, (l.all fun s => (decR s).isSome) = R := ⟨_, rfl⟩
  rw [hR]
  have HR := Lib.hid hR
  clear hR hls hS
  go_enter Tryz.func58, Tryz.ntmps58
  go_wp2
  go_loopw [7] (fun i wr => ∃ k : Nat, k ≤ m ∧ i = .int .i64 (k : Int) ∧ Hid ((l.take k).all (fun s => (decR s).isSome) = true) ∧ Below w.heap.size w wr) (fun i _ => m - (intOf i).toNat)
  case atStart => exact ⟨0, by omega, rfl, Lib.hid rfl, Below.refl _ _⟩
  case round =>
    obtain ⟨k, hk, rfl, HK, hb⟩ := hrel
    by_cases hlt : k < m
    · have t1 : decide ((k : Int) < (m : Int)) = true := by simp; omega
      have kz : (k : Int) < (m : Int) := by omega
      obtain ⟨b1, o1, rfl, hB1, hc1⟩ := hl.some_ (by omega)
      obtain ⟨s, hs⟩ : ∃ a, l[k]? = some a := ⟨_, List.getElem?_eq_getElem (by have := HM.out; omega)⟩
      have d0 : wr.cell? ⟨b1, o1 + k, none⟩ = some (.string (str s)) := (hb.cell (p := ⟨b1, o1 + k, none⟩) hB1).trans (hc1 k s hs)
      have HGs := Lib.hid (HEn.out s (List.mem_of_getElem? hs) wr hb)
      obtain ⟨G, hG⟩ : ∃ G, (decR s).isSome = G := ⟨_, rfl⟩
      rw [hG] at HGs
      have HK2 : Hid ((l.take (k + 1)).all (fun s => (decR s).isSome) = G) := Lib.hid (by rw [take_next hs, List.all_append, HK.out]; simp [hG])
      clear hc1 hs hG
      go_wp2_with fail
      refine HGs.out.mono ?_
      rintro e w3 ⟨rfl, k3⟩
      have hb3 := below_next hb k3
      cases G with
      | true =>
        go_wp2
        go_roundw
        case rel => exact ⟨k + 1, by omega, by go_num, HK2, hb3⟩
        case measure => simp [intOf]; omega
      | false =>
        have HE : Hid (R = false) := Lib.hid (by
          rw [← HR.out]
          cases ha : l.all (fun s => (decR s).isSome) with
          | false => rfl
          | true =>
            have h2 := HK2.out
            rw [List.all_eq_true.2 (fun x hx => List.all_eq_true.1 ha x (List.mem_of_mem_take hx))] at h2
            cases h2)
        go_wp2
        go_ret
        rw [HE.out]
        exact ⟨rfl, hb3⟩
    · obtain rfl : k = m := by omega
      have t1 : decide ((k : Int) < (k : Int)) = false := by simp
      have HE : Hid (R = true) := Lib.hid (by have hp := HK.out; rw [List.take_of_length_le (by rw [HM.out]; exact Nat.le_refl _)] at hp; rw [← HR.out]; exact hp)
      go_wp2
      go_ret
      rw [HE.out]
      exact ⟨rfl, hb⟩

theorem nSort_bad1 {t : List RuleL} (l : List (List UInt8)) (h : validT t = false) : nSort t l = l := by
  unfold nSort
  cases l with
  | nil => split <;> rfl
  | cons s l => rw [if_neg]; rw [List.all_cons, good_no1 h, Bool.false_and]; exact Bool.false_ne_true
theorem nSort_bad2 {t : List RuleL} {l : List (List UInt8)} (h : (l.all fun s => (decR s).isSome) = false) : nSort t l = l := by
  refine if_neg fun h2 => ?_
  rw [List.all_eq_true.2 (fun s hs => (good_parts (List.all_eq_true.1 h2 s hs)).1)] at h
  cases h
theorem all_good {t : List RuleL} {l : List (List UInt8)} (hv : validT t = true) (h : (l.all fun s => (decR s).isSome) = true) : ∀ s ∈ l, goodT t s = true := fun s hs => good_of hv (List.all_eq_true.1 h s hs)
theorem nSort_good {t : List RuleL} {l : List (List UInt8)} (h : ∀ s ∈ l, goodT t s = true) : nSort t l = sortS (ltT t) l := if_pos (List.all_eq_true.2 h)

theorem key_own {t : List RuleL} {s : List UInt8} {w : World} {base B n c : Nat} {A : Option Addr} (h : w.ownsRow base 5 1 (.slice A n c) (keyB t s).length ((keyB t s).map bv)) (hb : B ≤ base) :
    ∃ a, A = some ⟨a, 0, none⟩ ∧ B ≤ a ∧ a < w.heap.size ∧ Arr bv w w.heap.size (.slice (some ⟨a, 0, none⟩) n c) (keyB t s) := by
  have hA := Arr.of_own h
  rcases h.2 with ⟨_, h1⟩ | ⟨g, cap, cur, hv, hb2, hx, _⟩
  · have h2 := keyB_eq t s
    rw [h2] at h1
    simp at h1
  · injection hv with h1 h2 h3
    subst h1
    exact ⟨g, rfl, Nat.le_trans hb hb2, (Array.getElem?_eq_some_iff.1 hx).1, hA⟩
theorem Keys.put {W W' : World} {B b kp N n c : Nat} {D : DataW Value} {t : List RuleL} {L : List (List UInt8)} {s : List UInt8} {A : Option Addr} (h : Keys W B b kp N D t L) (hown : W'.ownsMap Tryz.prog 9 heldR b (N + 1) (D.put (.string s) (.held (.slice A n c)))) (hg : W.grownBy W' (some b))
    (hA : ∃ a, A = some ⟨a, 0, none⟩ ∧ B ≤ a ∧ a < W.heap.size ∧ Arr bv W W.heap.size (.slice (some ⟨a, 0, none⟩) n c) (keyB t s)) (hbB : b < B) (hkb : b ≠ kp) : Keys W' B b kp (N + 1) (D.put (.string s) (.held (.slice A n c))) t (L ++ [s]) := by
  have hM := h.map.isMap
  refine ⟨(hg.block kp h.box.lt (fun e => hkb (by injection e with e; exact e.symm))).trans h.box, hown, fun s' hs' => ?_, fun s' hs' => ?_⟩
  · by_cases e : s' = s
    · subst e
      obtain ⟨a, rfl, h1, h2, h3⟩ := hA
      exact ⟨a, n, c, atKey_put_same (k := .string s') hM trivial _ _, h1, Nat.lt_of_lt_of_le h2 hg.size, arr_block h3 hg.size (hg.block a h2 fun e => by injection e with e; omega)⟩
    · have hs2 : s' ∈ L := by
        rcases List.mem_append.1 hs' with h1 | h1
        · exact h1
        · exact absurd (List.mem_singleton.1 h1) e
      obtain ⟨a, n', c', e1, e2, e3, e4⟩ := h.yes s' hs2
      refine ⟨a, n', c', ?_, e2, Nat.lt_of_lt_of_le e3 hg.size, arr_block e4 hg.size (hg.block a e3 fun e => by injection e with e; omega)⟩
      rw [atKey_put_other (fun e2 => e (by injection e2))]
      exact e1
  · have hs1 : s' ∉ L := fun h1 => hs' (List.mem_append_left _ h1)
    have hs2 : s' ≠ s := fun h1 => hs' (List.mem_append_right _ (by rw [h1]; exact List.mem_singleton.2 rfl))
    rw [atKey_put_other (fun e2 => hs2 (by injection e2))]
    exact h.no s' hs1
theorem atKey_nil (k : Lit) (z : DataW Value) : (DataW.map ([] : List (Lit × DataW Value))).atKey k z = z := rfl

set_option maxRecDepth 100000 in
set_option maxHeartbeats 6400000 in
theorem prSort8_any (A : Option Addr) (n c : Nat) (t : List RuleL) (A' : Option Addr) (m c' : Nat) (l : List (List UInt8)) (w : World) (hS : Spans w) (h : Tab8 w A n c t) (hl : Arr sv w w.heap.size (.slice A' m c') l) (hm : m ≤ 8) (hls : ∀ s ∈ l, s.length ≤ 500) :
    Calls Tryz.prog 29 #[.slice A n c, .slice A' m c'] w fun e w' => ∃ A2 n2 c2, e = .returned (.slice A2 n2 c2) ∧ Arr sv w' w'.heap.size (.slice A2 n2 c2) (nSort t l) ∧ Below w.heap.size w w' := by
  have HM := Lib.hid hl.len
  have HCl := Lib.hid (cloneS_any A' m c' l w hl (by omega))
  have HV := Lib.hid (fun (W : World) (hW : Below w.heap.size w W) => prValid_any A n c t W (hS.below hW) (h.up hW).arr h.few h.short)
  have HAe := Lib.hid (fun (W : World) (hW : Below w.heap.size w W) => allEnc_any A' m c' l W (hS.below hW) (hl.up hW) (by omega) hls)
  cases hv : validT t with
  | false =>
    rw [hv] at HV
    rw [nSort_bad1 l hv]
    clear hS h hl hls hv
    go_enter Tryz.func29, Tryz.ntmps29
    go_wp2_with fail
    refine HCl.out.mono ?_
    rintro e w1 ⟨A1, c1, rfl, hO1, k1⟩
    have HO1 := Lib.hid hO1
    clear hO1
    go_wp2_with fail
    refine (HV.out _ k1).mono ?_
    rintro e w2 ⟨rfl, k2⟩
    have HA := Lib.hid ((Arr.of_own HO1.out).up k2)
    go_wp2
    go_ret
    exact ⟨_, _, _, rfl, HA.out, below_next k1 k2⟩
  | true =>
    rw [hv] at HV
    cases he : (l.all fun s => (decR s).isSome) with
    | false =>
      rw [he] at HAe
      rw [nSort_bad2 he]
      clear hS h hl hls hv he
      go_enter Tryz.func29, Tryz.ntmps29
      go_wp2_with fail
      refine HCl.out.mono ?_
      rintro e w1 ⟨A1, c1, rfl, hO1, k1⟩
      have HO1 := Lib.hid hO1
      clear hO1
      go_wp2_with fail
      refine (HV.out _ k1).mono ?_
      rintro e w2 ⟨rfl, k2⟩
      have b2 := below_next k1 k2
      go_wp2_with fail
      refine (HAe.out _ b2).mono ?_
      rintro e w3 ⟨rfl, k3⟩
      have HA := Lib.hid (((Arr.of_own HO1.out).up k2).up k3)
      go_wp2
      go_ret
      exact ⟨_, _, _, rfl, HA.out, below_next b2 k3⟩
    | true =>
      rw [he] at HAe
      have hgd := all_good hv he
      rw [nSort_good hgd]
      have HGd := Lib.hid hgd
      have HLs := Lib.hid hls
      have HP := Lib.hid (fun (W : World) (hW : Below w.heap.size w W) => prPrepare_any A n c t W (hS.below hW) (h.arr.up hW) hv)
      have HKy := Lib.hid (fun (s : List UInt8) (hs : s ∈ l) (W : World) (hW : Below w.heap.size w W) (A' : Option Addr) (n' c' : Nat) (hL : Ltt W W.heap.size (.slice A' n' c') (t.map letL)) => prKeyOwn_any A' n' c' t s W (hS.below hW) hL hv (hls s hs))
      have hmm := @run_makeMap Tryz.prog
      clear hS h hv he hgd hls
      go_enter Tryz.func29, Tryz.ntmps29
      go_wp2_with fail
      refine HCl.out.mono ?_
      rintro e w1 ⟨A1, c1, rfl, hO1, k1⟩
      have HO1 := Lib.hid hO1
      clear hO1
      go_wp2_with fail
      refine (HV.out _ k1).mono ?_
      rintro e w2 ⟨rfl, k2⟩
      have b2 := below_next k1 k2
      go_wp2_with fail
      refine (HAe.out _ b2).mono ?_
      rintro e w3 ⟨rfl, k3⟩
      have b3 := below_next b2 k3
      go_wp2_with fail
      refine (HP.out _ b3).mono ?_
      rintro e w4 ⟨A4, n4, c4, rfl, hL4, k4⟩
      have b4 := below_next b3 k4
      have HL4 := Lib.hid hL4
      have kk := below_next (below_next k2 k3) k4
      clear hL4
      go_wp2
      have hz1 : (w4.alloc (.map #[] 0)).heap.size = w4.heap.size + 1 := by simp
      have hb1 : Below w4.heap.size w4 (w4.alloc (.map #[] 0)) := (Below.refl _ _).alloc (Nat.le_refl _) _
      obtain ⟨V, hV⟩ : ∃ V, (w4.alloc (.map #[] 0)).alloc (.cells #[.map (some w4.heap.size)] 84) = V := ⟨_, rfl⟩
      have hbV : Below w4.heap.size w4 V := by
        rw [← hV]
        exact hb1.alloc (by simp) _
      have hVs : V.heap.size = w4.heap.size + 2 := by rw [← hV]; simp
      have hKV : Keys V (w4.heap.size + 2) w4.heap.size (w4.heap.size + 1) 0 (.map []) t [] := by
        refine ⟨?_, ?_, (fun s hs => by cases hs), (fun s _ => rfl)⟩
        · rw [← hV, ← hz1]
          exact Box.made _ _ _
        · rw [← hV]
          exact (World.ownsMap_made _ _ _ _).kept (grown_of_below none ((Below.refl _ _).alloc (Nat.le_refl _) _)) (by simp)
      rw [hV]
      have q22 : ∀ (w : World) (a : Option Addr) (n c n' c' : Nat), (binOp .eql 30 (.slice a n c) (.slice none n' c')).run Tryz.prog w = .ok (.bool a.isNone) w := fun w a n c n' c' => Lib.run_eql_slice_nil w _ _ a n c n' c' Tryz.underlying30
      have HKV := Lib.hid hKV
      clear hV hz1 hb1 hKV
      go_loopw [26] (fun i wr => ∃ (k N : Nat) (D : DataW Value), k ≤ m ∧ N ≤ k ∧ i = .int .i64 (k : Int) ∧ Hid (Keys wr (w4.heap.size + 2) w4.heap.size (w4.heap.size + 1) N D t (l.take k)) ∧ Below w4.heap.size w4 wr) (fun i _ => m - (intOf i).toNat)
      case atStart => exact ⟨0, 0, _, by omega, Nat.le_refl _, rfl, HKV, hbV⟩
      case round =>
        obtain ⟨k, N, D, hk, hNk, rfl, HK, hb⟩ := hrel
        have hbB := below_next b4 hb
        by_cases hlt : k < m
        · have t1 : decide ((k : Int) < (m : Int)) = true := by simp; omega
          have t1' : decide (k < m) = true := by simpa using hlt
          have kz : (k : Int) < (m : Int) := by omega
          obtain ⟨b1, o1, rfl, hB1, hc1⟩ := hl.some_ (by omega)
          obtain ⟨s, hs⟩ : ∃ a, l[k]? = some a := ⟨_, List.getElem?_eq_getElem (by have := HM.out; omega)⟩
          have d0 : wr.cell? ⟨b1, o1 + k, none⟩ = some (.string (str s)) := (hbB.cell (p := ⟨b1, o1 + k, none⟩) hB1).trans (hc1 k s hs)
          have hsl := List.mem_of_getElem? hs
          have hlen := HLs.out s hsl
          have HTk := Lib.hid (take_next hs)
          have dkp : wr.cell? ⟨w4.heap.size + 1, 0, none⟩ = some (.map (some w4.heap.size)) := HK.out.box.cell 0
          by_cases hin : s ∈ l.take k
          · obtain ⟨a, n5, c5, e1, -, -, -⟩ := HK.out.yes s hin
            have hlook := held_look HK.out.map s (by omega) e1
            have HK2 : Hid (Keys wr (w4.heap.size + 2) w4.heap.size (w4.heap.size + 1) N D t (l.take (k + 1))) := Lib.hid (by
              rw [HTk.out]
              refine ⟨HK.out.box, HK.out.map, fun s' hs' => HK.out.yes s' ?_, fun s' hs' => HK.out.no s' fun h => hs' (List.mem_append_left _ h)⟩
              rcases List.mem_append.1 hs' with h | h
              · exact h
              · rw [List.mem_singleton.1 h]; exact hin)
            clear hc1 hs hsl hin e1 hlen
            go_wp2
            go_roundw
            case rel => exact ⟨k + 1, N, D, by omega, by omega, by go_num, HK2, hb⟩
            case measure => simp [intOf]; omega
          · have hlook := held_look HK.out.map s (by omega) (HK.out.no s hin)
            have HKs := Lib.hid (fun (W : World) (hW : Below wr.heap.size wr W) => HKy.out s hsl W (below_next hbB hW) A4 n4 c4 ((HL4.out.up hb).up hW))
            have HPut : Hid (∀ (w5 : World) (A5 : Option Addr) (n5 c5 : Nat), Below wr.heap.size wr w5 → w5.ownsRow wr.heap.size 5 1 (.slice A5 n5 c5) (keyB t s).length ((keyB t s).map bv) →
                ∃ w6, (Instr.mapUpdate 84 (.map (some w4.heap.size)) (.string (str s)) (.slice A5 n5 c5)).run Tryz.prog w5 = .ok () w6 ∧ ∃ D6, Keys w6 (w4.heap.size + 2) w4.heap.size (w4.heap.size + 1) (N + 1) D6 t (l.take (k + 1)) ∧ Below w4.heap.size w4 w6) := Lib.hid (by
              intro w5 A5 n5 c5 k5 hO5
              have hK5 := HK.out.grown (grown_of_below none k5) (by simp) (by simp) (fun g e => by cases e)
              obtain ⟨w6, hrun, hown6, hg6⟩ := hK5.map.update (string_keyed Tryz.underlying9) Tryz.underlying84 (by unfold maxLen; omega) (key_lit s (by omega)) (val := .slice A5 n5 c5) (d := .held (.slice A5 n5 c5)) (ps := []) rfl
              refine ⟨w6, hrun, D.put (.string s) (.held (.slice A5 n5 c5)), ?_, ?_⟩
              · rw [HTk.out]
                exact hK5.put hown6 hg6 (key_own hO5 (by have := hb.size; have := hVs; have := HK.out.box.lt; omega)) (by omega) (by omega)
              · exact (below_next hb k5).grown hg6 (below_next hb k5).size (fun j hj => by cases hj; exact Nat.le_refl _))
            clear hc1 hs hsl hin hlen
            go_wp2
            go_region_held3 (fun v => v.cell? ⟨w4.heap.size + 1, 0, none⟩ = some (.map (some w4.heap.size))) (first | exact dkp | exact dkp5 | exact dkp6) (first | (go_at_call 42; (with_reducible refine (HKs.out _ (Below.refl _ _).drew).mono ?_); rintro e w5 ⟨A5, n5, c5, rfl, hO5, k5⟩; have kk5 := below_next (Below.refl wr.heap.size wr).drew k5; have dkp5 := (kk5.cell (p := ⟨w4.heap.size + 1, 0, none⟩) HK.out.box.lt).trans dkp; obtain ⟨w6, hrun, D6, hK6, hb6⟩ := HPut.out w5 A5 n5 c5 kk5 hO5; have dkp6 : w6.cell? ⟨w4.heap.size + 1, 0, none⟩ = some (.map (some w4.heap.size)) := hK6.box.cell 0))
            have HK6 := Lib.hid hK6
            clear hK6 hO5 k5 kk5 dkp dkp5 hrun hlook
            go_wp2
            go_roundw
            case rel => exact ⟨k + 1, N + 1, D6, by omega, by omega, by go_num, HK6, hb6⟩
            case measure => simp [intOf]; omega
        · obtain rfl : k = m := by omega
          have t1 : decide ((k : Int) < (k : Int)) = false := by simp
          have t1' : decide (k < k) = false := by simp
          have hKl : Keys wr (w4.heap.size + 2) w4.heap.size (w4.heap.size + 1) N D t l := by
            have h1 := HK.out
            rwa [List.take_of_length_le (by rw [HM.out]; exact Nat.le_refl _)] at h1
          obtain ⟨m, hmk⟩ : ∃ m, m = k := ⟨_, rfl⟩
          subst hmk
          obtain ⟨w5, hw5⟩ : ∃ x : World, x = wr := ⟨_, rfl⟩
          subst hw5
          by_cases h0 : m = 0
          · subst h0
            have e0 : l = [] := List.length_eq_zero_iff.1 HM.out
            have HS := Lib.hid (sortS_of A1 0 c1 (.func (.func 60) #[] #[.pointer (some ⟨w4.heap.size + 1, 0, none⟩)]) (fun w' => w' = w5) w5 (stableS_of A1 0 c1 _ (fun w' => w' = w5) w5 (by omega) (insertS_none A1 c1 _ w5)))
            have HA5 : Hid (Arr sv w5 w5.heap.size (.slice A1 0 c1) (sortS (ltT t) l)) := Lib.hid (by
              have h1 := (Arr.of_own HO1.out).up (below_next kk hb)
              rw [e0] at h1 ⊢
              exact h1)
            clear hKl HK HKV e0 t1 t1' hlt
            go_wp2_with fail
            refine HS.out.mono ?_
            rintro e w6 ⟨rfl, rfl⟩
            go_wp2
            go_ret
            exact ⟨_, _, _, rfl, HA5.out, hbB⟩
          · obtain ⟨g, cap, kc, hv, hgb, hgs, hcap, hrow⟩ := row_of_own (l := l) (v := .slice A1 m c1) HO1.out (by have := HM.out; omega)
            rw [HM.out] at hv hcap
            injection hv with hv1 hv2 hv3
            subst hv1 hv3
            have hg4 : g < w4.heap.size := by have := kk.size; omega
            have hrow5 := hrow.below (below_next kk hb) hgs
            have HS := Lib.hid (sortS_of (some ⟨g, 0, none⟩) m c1 (.func (.func 60) #[] #[.pointer (some ⟨w4.heap.size + 1, 0, none⟩)]) (fun w' => RowS w' g kc (sortS (ltT t) l) ∧ w5.grownBy w' (some g)) w5
              (stableS_of (some ⟨g, 0, none⟩) m c1 _ (fun w' => RowS w' g kc (sortS (ltT t) l) ∧ w5.grownBy w' (some g)) w5 hm
                (insertS_any g kc _ _ _ N D t l l m c1 w5 hKl (fun s h => h) (fun s hs => by have := HLs.out s hs; omega) HGd.out hrow5 HM.out (by omega) (by omega) (by omega) (by omega) (by omega))))
            have HSl : Hid ((sortS (ltT t) l).length = m) := Lib.hid (by rw [sortS_len, HM.out])
            clear hKl HK HKV t1 t1' hlt hrow hrow5 h0
            go_wp2_with fail
            refine HS.out.mono ?_
            rintro e w6 ⟨rfl, hr6, hg6⟩
            have hA6 := hr6.arr (B := w6.heap.size) (by obtain ⟨_, hb9, _⟩ := hr6; exact hb9.lt) c1 (by rw [HSl.out]; exact hcap)
            rw [HSl.out] at hA6
            have HA6 := Lib.hid hA6
            have hb6 := hbB.grown hg6 hbB.size (fun j hj => by cases hj; exact hgb)
            clear hr6 hA6 hg6
            go_wp2
            go_ret
            exact ⟨_, _, _, rfl, HA6.out, hb6⟩

end Go.Proofs.YtafnjbmeponobaaGreatDoor
