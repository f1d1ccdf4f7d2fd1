/-
  The reference's Sort, Same.
  The program's key, as a row of the call's own.
  The keys of strings in a map that a closure has captured; the closure of the program's Sort.
-/
import Derived.Test.YtafnjbmeponobaaGreatDoorPkBI
import Derived.Test.YtafnjbmeponobaaGreatDoorCoCmpR
import Derived.Test.YtafnjbmeponobaaGreatDoorPkBB
import Derived.BigQuiet
import Derived.Test.YtafnjbmeponobaaGreatDoorPkBG
import Derived.Test.YtafnjbmeponobaaGreatDoorPkBH
namespace Go.Proofs.YtafnjbmeponobaaGreatDoor
open Go.RowKit

theorem RowS.put {w : World} {g cap : Nat} {L : List (List UInt8)} {cu : Array Value} (hb : Box w g 9 cu) (hc : cu.size = cap) (i : Nat) (x : Value) (j : Nat) (y : Value)
    (ht : ((cu.setIfInBounds i x).setIfInBounds j y).toList.take L.length = L.map sv) : RowS ((w.setCell ⟨g, i, none⟩ x).setCell ⟨g, j, none⟩ y) g cap L :=
  ⟨_, (hb.put i x).put j y, by simp [hc], ht⟩

set_option maxRecDepth 100000 in
set_option maxHeartbeats 6400000 in
theorem refSort8_any (A : Option Addr) (n c : Nat) (t : List RuleL) (A' : Option Addr) (m c' : Nat) (l : List (List UInt8)) (w : World) (h : Tab8 w A n c t) (hl : Arr sv w w.heap.size (.slice A' m c') l) (hm : m ≤ 1000000) (hls : ∀ s ∈ l, s.length ≤ 60000) :
    Calls Tryz.prog 31 #[.slice A n c, .slice A' m c'] w fun e w' => ∃ A2 n2 c2, e = .returned (.slice A2 n2 c2) ∧ Arr sv w' w'.heap.size (.slice A2 n2 c2) (nSort t l) ∧ Below w.heap.size w w' := by
  have HM := Lib.hid hl.len
  have hlen := hl.len
  have HGd := Lib.hid (fun (s : List UInt8) (hs : s ∈ l) (W : World) (hW : Below w.heap.size w W) => refGood8_any A n c t s W (h.up hW) (hls s hs))
  have HCm := Lib.hid (fun (x y : List UInt8) (hx : x ∈ l) (hy : y ∈ l) (W : World) (hW : Below w.heap.size w W) => refCompare8_any A n c t x y W (h.up hW) (hls x hx) (hls y hy))
  have hown0 : (w.alloc (.cells #[] 9)).ownsRow w.heap.size 9 1 (.slice (some ⟨w.heap.size, 0, none⟩) 0 0) ([] : List (List UInt8)).length (([] : List (List UInt8)).map sv) :=
    ⟨by simp, .inr ⟨w.heap.size, 0, #[], rfl, Nat.le_refl _, by simpa using heap_alloc_new w (.cells #[] 9), Nat.le_refl _, by unfold maxLen; omega, by simp, by simp⟩⟩
  have hA1 : Below w.heap.size w (w.alloc (.cells #[] 9)) := (Below.refl _ _).alloc (Nat.le_refl _) _
  have hl1 := hl.up hA1
  have hsz1 : w.heap.size ≤ (w.alloc (.cells #[] 9)).heap.size := hA1.size
  have hln : ([] : List (List UInt8)).length + l.length ≤ 1000000000000 := by simp; omega
  have HG : Hid ((l.all fun s => goodT t s) = true → nSort t l = sortS (ltT t) l) := Lib.hid (fun h => if_pos h)
  have HB : Hid ((l.all fun s => goodT t s) = false → nSort t l = l) := Lib.hid (fun h => if_neg (by rw [h]; exact Bool.false_ne_true))
  obtain ⟨R, hR⟩ : ∃ R, nSort t l = R := ⟨_, rfl⟩
  rw [hR] at HG HB ⊢
  clear hR h hls
  go_enter Tryz.func31, Tryz.ntmps31
  go_wp2_with (at_builtin; refine append_arr (val := sv) 43 9 (.string ⟨#[]⟩) 16 Tryz.underlying43 info_string rfl (by decide) one_sv (w.alloc (.cells #[] 9)) rfl (.tmp 9) (.tmp 10) rfl w.heap.size _ (.slice (some ⟨w.heap.size, 0, none⟩) 0 0) [] rfl hown0 l _ rfl hl1 hln hsz1 ?_; intro v2 w2 hown2 hb2)
  rw [List.nil_append] at hown2
  have hbW : Below w.heap.size w w2 := hA1.trans hb2
  have HA2 := Lib.hid (Arr.of_own hown2)
  obtain ⟨A2, c2, hv2⟩ := HA2.out.form
  subst hv2
  have HOwn := Lib.hid hown2
  rw [hlen] at HOwn
  have hA20 := HA2.out
  rw [hlen] at hA20
  have HA2 := Lib.hid hA20
  clear hown2 hown0 hl1 hsz1 hln hA20 hA1 hb2
  rw [hlen]
  clear hlen
  go_wp2
  go_loopw [6] (fun i wr => ∃ k : Nat, k ≤ m ∧ i = .int .i64 (k : Int) ∧ Hid ((l.take k).all (fun s => goodT t s) = true) ∧ Below w2.heap.size w2 wr) (fun i _ => m - (intOf i).toNat)
  case atStart => exact ⟨0, by omega, rfl, Lib.hid rfl, Below.refl _ _⟩
  case round =>
    obtain ⟨k, hk, rfl, HK, hb⟩ := hrel
    have hbB := below_next hbW hb
    by_cases hlt : k < m
    · have t1 : decide ((k : Int) < (m : Int)) = true := by simp; omega
      have t1' : decide (k < m) = true := by simpa using hlt
      have kz : (k : Int) < (m : Int) := by omega
      obtain ⟨b1, o1, rfl, hB1, hc1⟩ := hl.some_ (by omega)
      obtain ⟨s, hs⟩ : ∃ a, l[k]? = some a := ⟨_, List.getElem?_eq_getElem (by have := HM.out; omega)⟩
      have d0 : wr.cell? ⟨b1, o1 + k, none⟩ = some (.string (str s)) := (hbB.cell (p := ⟨b1, o1 + k, none⟩) hB1).trans (hc1 k s hs)
      have HGs := Lib.hid (HGd.out s (List.mem_of_getElem? hs) wr hbB)
      obtain ⟨G, hG⟩ : ∃ G, goodT t s = G := ⟨_, rfl⟩
      rw [hG] at HGs
      have HK2 : Hid ((l.take (k + 1)).all (fun s => goodT t s) = G) := Lib.hid (by rw [take_next hs, List.all_append, HK.out]; simp [hG])
      clear hc1 hs hG
      go_wp2_with fail
      refine HGs.out.mono ?_
      rintro e w3 ⟨rfl, k3⟩
      have hb3 := below_next hb k3
      cases G with
      | true =>
        go_wp2
        go_roundw
        case rel => exact ⟨k + 1, by omega, by go_num, HK2, hb3⟩
        case measure => simp [intOf]; omega
      | false =>
        have HE : Hid (R = l) := Lib.hid (HB.out (by
          cases ha : l.all (fun s => goodT t s) with
          | false => rfl
          | true =>
            have h2 := HK2.out
            rw [List.all_eq_true.2 (fun x hx => List.all_eq_true.1 ha x (List.mem_of_mem_take hx))] at h2
            cases h2))
        have HA3 := Lib.hid (HA2.out.up hb3)
        go_wp2
        go_ret
        rw [HE.out]
        exact ⟨_, _, _, rfl, HA3.out, below_next hbW hb3⟩
    · obtain rfl : k = m := by omega
      have t1 : decide ((k : Int) < (k : Int)) = false := by simp
      have t1' : decide (k < k) = false := by simp
      have HAll : Hid (R = sortS (ltT t) l) := Lib.hid (HG.out (by have hp := HK.out; rwa [List.take_of_length_le (by rw [HM.out]; exact Nat.le_refl _)] at hp))
      obtain ⟨m, hmk⟩ : ∃ m, m = k := ⟨_, rfl⟩
      subst hmk
      obtain ⟨w3, hw3⟩ : ∃ x : World, x = wr := ⟨_, rfl⟩
      subst hw3
      by_cases h0 : m = 0
      · subst h0
        have e0 : l = [] := List.length_eq_zero_iff.1 HM.out
        have HA3 : Hid (Arr sv w3 w3.heap.size (.slice A2 0 c2) R) := Lib.hid (by
          have h1 := HA2.out.up hb
          rw [HAll.out, e0]
          rw [e0] at h1
          exact h1)
        clear e0
        go_wp2
        go_loopw [7] (fun i wr => i = .int .i64 1 ∧ wr = w3) (fun i _ => 0)
        case atStart => exact ⟨rfl, rfl⟩
        case round =>
          obtain ⟨rfl, rfl⟩ := hrel
          go_wp2
          go_ret
          exact ⟨_, _, _, rfl, HA3.out, below_next hbW hb⟩
      · obtain ⟨g, cap, kc, hv, hgb, hgs, hcap, hrow⟩ := row_of_own (l := l) (by have h1 := HOwn.out; rw [← HM.out] at h1; exact h1) (by have := HM.out; omega)
        rw [HM.out] at hv hcap
        injection hv with hv1 hv2 hv3
        subst hv1 hv3
        have HR0 := Lib.hid (hrow.below hb hgs)
        have HMem : Hid (∀ k, ∀ s ∈ sortS (ltT t) (l.take k), s ∈ l) := Lib.hid fun k s hs => List.mem_of_mem_take (sortS_mem _ hs)
        have hgs3 : g < w3.heap.size := by have := hb.size; omega
        have h1m : 1 ≤ m := by omega
        clear hrow h0 t1 t1' HK HA2 HOwn HGd hb hgs
        go_wp2
        go_loopw [7] (fun s wr => ∃ (i : Nat), s = .int .i64 (i : Int) ∧ 1 ≤ i ∧ i ≤ m ∧ Hid (RowS wr g kc (sortS (ltT t) (l.take i) ++ l.drop i)) ∧ Below w.heap.size w wr) (fun s _ => m - (intOf s).toNat)
        case atStart => exact ⟨1, by go_num, Nat.le_refl _, h1m, Lib.hid (HR0.out.same (by
          obtain ⟨x, hx⟩ : ∃ x, l[0]? = some x := ⟨_, List.getElem?_eq_getElem (by have := HM.out; omega)⟩
          have h2 := take_next hx
          rw [List.take_zero, List.nil_append] at h2
          rw [h2, sortS_one, ← h2, List.take_append_drop])), hbB⟩
        case round =>
          obtain ⟨i, rfl, hi1, him, HR, hb⟩ := hrel
          by_cases hlt : i < m
          · have t1 : decide ((i : Int) < (m : Int)) = true := by simp; omega
            have t1' : decide (i < m) = true := by simpa using hlt
            obtain ⟨y, hy⟩ : ∃ a, l[i]? = some a := ⟨_, List.getElem?_eq_getElem (by have := HM.out; omega)⟩
            have hyl := List.mem_of_getElem? hy
            have hdr : l.drop i = y :: l.drop (i + 1) := by
              obtain ⟨h1, h2⟩ := List.getElem?_eq_some_iff.1 hy
              rw [List.drop_eq_getElem_cons h1, h2]
            have HSo : Hid (sortS (ltT t) (l.take (i + 1)) = insS (ltT t) (sortS (ltT t) (l.take i)) y) := Lib.hid (by rw [take_next hy, sortS_snoc])
            have hSl : (sortS (ltT t) (l.take i)).length = i := by rw [sortS_len, List.length_take]; have := HM.out; omega
            have HSm : Hid (∀ s ∈ sortS (ltT t) (l.take i), s ∈ l) := Lib.hid (HMem.out i)
            obtain ⟨S, hS⟩ : ∃ S, sortS (ltT t) (l.take i) = S := ⟨_, rfl⟩
            obtain ⟨T, hT⟩ : ∃ T, l.drop (i + 1) = T := ⟨_, rfl⟩
            obtain ⟨S', hS'⟩ : ∃ S', sortS (ltT t) (l.take (i + 1)) = S' := ⟨_, rfl⟩
            have HR1 : Hid (RowS wr g kc (S ++ y :: ([] ++ T))) := Lib.hid (HR.out.same (by rw [hdr, hS, hT]; rfl))
            have HK : Hid (∀ W, RowS W g kc (S' ++ T) → RowS W g kc (sortS (ltT t) (l.take (i + 1)) ++ l.drop (i + 1))) := Lib.hid (by rw [hS', hT]; exact fun _ h => h)
            rw [hS] at HSo hSl HSm
            rw [hS'] at HSo
            clear hy hdr hS hT hS' HR
            obtain ⟨w4, hw4⟩ : ∃ x : World, x = wr := ⟨_, rfl⟩
            subst hw4
            go_wp2
            go_loopw [8] (fun s wr => ∃ (j : Nat) (S1 S2 : List (List UInt8)), s = .int .i64 (j : Int) ∧ Hid (S' = insS (ltT t) S1 y ++ S2) ∧ Hid (j = S1.length) ∧ j ≤ i ∧ Hid (∀ s ∈ S1, s ∈ l) ∧ Hid (RowS wr g kc (S1 ++ y :: (S2 ++ T))) ∧ Below w.heap.size w wr) (fun s _ => (intOf s).toNat)
            case atStart => exact ⟨i, S, [], rfl, Lib.hid (by rw [List.append_nil]; exact HSo.out), Lib.hid hSl.symm, Nat.le_refl _, HSm, HR1, hb⟩
            case round =>
              obtain ⟨j, S1, S2, rfl, HSS, Hjl, hji, HSm1, HR2, hb2⟩ := hrel
              have hjl := Hjl.out
              by_cases hj0 : 0 < j
              · have hne : S1 ≠ [] := fun e => by rw [e] at hjl; simp at hjl; omega
                obtain ⟨S0, x, hS1⟩ : ∃ S0 x, S1 = S0 ++ [x] := ⟨S1.dropLast, S1.getLast hne, (List.dropLast_concat_getLast hne).symm⟩
                subst hS1
                obtain ⟨p, hjp⟩ : ∃ p, j = p + 1 := ⟨j - 1, by omega⟩
                have hpl : p = S0.length := by rw [List.length_append, List.length_singleton] at hjl; omega
                have hxl := HSm1.out x (by simp)
                have HSm0 : Hid (∀ s ∈ S0, s ∈ l) := Lib.hid fun s hs => HSm1.out s (by simp [hs])
                have t2 : decide ((0 : Int) < (j : Int)) = true := decide_eq_true (by omega)
                have t2b : decide (0 < j) = true := decide_eq_true hj0
                have ep : (j : Int) - 1 = (p : Int) := by omega
                have hwp : IntKind.i64.wrap (p : Int) = (p : Int) := wraps_i64 _ (by omega) (by omega)
                have z0 : (p : Int) < (m : Int) := by omega
                have z0n : p < m := by omega
                have z1n : j < m := by omega
                have z00 : (0 : Int) ≤ (p : Int) := by omega
                have z1 : (j : Int) < (m : Int) := by omega
                obtain ⟨cu, hbx, hcs, hT⟩ := HR2.out
                obtain ⟨NN, hNN⟩ : ∃ NN, (S0 ++ [x] ++ y :: (S2 ++ T)).length = NN := ⟨_, rfl⟩
                have HNN : Hid ((S0 ++ y :: ((x :: S2) ++ T)).length = NN) := Lib.hid (by rw [← hNN]; simp)
                rw [hNN] at hT
                have hT1 : cu.toList.take NN = (S0 ++ x :: (y :: (S2 ++ T))).map sv := by rw [hT]; simp
                have dx : wr.cell? ⟨g, p, none⟩ = some (.string (str x)) := (hbx.cell _).trans (swapS_fst hT1 hpl)
                have dy : wr.cell? ⟨g, j, none⟩ = some (.string (str y)) := by rw [hjp]; exact (hbx.cell _).trans (swapS_snd hT1 hpl)
                have hgw := hbx.lt
                have HCe := Lib.hid (fun (W : World) (hW : Below wr.heap.size wr W) => And.intro ((hW.cell (p := ⟨g, p, none⟩) hgw).trans dx) ((hW.cell (p := ⟨g, j, none⟩) hgw).trans dy))
                have q0 := fun p1 : Reach => cell_reach (p := p1) (a := ⟨g, p, none⟩) hgw dx
                have q1 := fun p1 : Reach => cell_reach (p := p1) (a := ⟨g, j, none⟩) hgw dy
                have HC := Lib.hid (fun (W : World) (hW : Below wr.heap.size wr W) => HCm.out x y hxl hyl W (below_next hb2 hW))
                have hlt8 := ltT_swap t y x
                obtain ⟨K, hK⟩ : ∃ K, nCmp t x y = K := ⟨_, rfl⟩
                rw [hK] at hlt8 HC
                clear hK hne HR2 hNN hT Hjl hjl
                by_cases hK : 0 < K
                · have t4 : decide (0 < K) = true := decide_eq_true hK
                  have HSS2 : Hid (S' = insS (ltT t) S0 y ++ (x :: S2)) := Lib.hid (by rw [HSS.out, insS_yes _ (by rw [← hlt8]; exact t4)]; simp)
                  have HSw : Hid (((cu.setIfInBounds p (sv y)).setIfInBounds j (sv x)).toList.take (S0 ++ y :: ((x :: S2) ++ T)).length = (S0 ++ y :: ((x :: S2) ++ T)).map sv) := Lib.hid (by rw [HNN.out, hjp]; exact swapS hT1 hpl)
                  have Hpl := Lib.hid hpl
                  have hpi : p ≤ i := by omega
                  have hpj : p < j := by omega
                  clear hjp hlt8 hT1 hpl HNN HSS HSm1 hxl
                  go_wp2
                  refine wp_region_reach (by kernel_rfl) (by kernel_rfl) ?_
                  repeat (quiet_step (first | (go_at_call 22; exact calls_reach (HC.out _ (below_reach _ _)))))
                  refine wpQuiet_nil ?_
                  intro _ hw'
                  obtain ⟨p1, hw''⟩ := hw'
                  subst hw''
                  have kc2 := below_reach wr p1
                  obtain ⟨wc, hwc⟩ : ∃ W, reach wr p1 = W := ⟨_, rfl⟩
                  rw [hwc] at kc2 ⊢
                  clear hwc
                  have hbc := hbx.below kc2 hgw
                  have dx2 := (HCe.out _ kc2).1
                  have dy2 := (HCe.out _ kc2).2
                  have f0 : wc.frozen? ⟨g, p, none⟩ = false := hbc.free _
                  have f1 : wc.frozen? ⟨g, j, none⟩ = false := hbc.free _
                  have hne2 : p ≠ j := by omega
                  have hb3 := below_next hb2 kc2
                  clear dx dy hbx HCe HC kc2 hK q0 q1
                  go_wp2
                  go_region
                  all_goals
                    go_wp2
                    go_roundw
                    case rel => exact ⟨p, S0, x :: S2, by go_num, HSS2, Hpl, hpi, HSm0, Lib.hid (RowS.put hbc hcs p _ j _ HSw.out), by first | exact below_putL (below_putL (below_drewN hb3 _) hgb _) hgb _ | exact below_putL (below_putL hb3.drew hgb _) hgb _ | exact (below_putL (below_putL hb3 hgb _) hgb _).drew⟩
                    case measure => first | (simp [intOf]; done) | (simp [intOf]; omega)
                · have t4 : decide (0 < K) = false := decide_eq_false hK
                  have HE : Hid (RowS wr g kc (S' ++ T)) := Lib.hid (⟨cu, hbx, hcs, by
                    have e1 : S' ++ T = S0 ++ x :: (y :: (S2 ++ T)) := by rw [HSS.out, insS_no _ (by rw [← hlt8]; exact t4)]; simp
                    have e2 : (S' ++ T).length = NN := by rw [← HNN.out, e1]; simp
                    rw [e2, e1]; exact hT1⟩)
                  clear hjp hlt8 hT1 hpl HNN HSS HSm1 hxl HSm0
                  go_wp2
                  refine wp_region_reach (by kernel_rfl) (by kernel_rfl) ?_
                  repeat (quiet_step (first | (go_at_call 22; exact calls_reach (HC.out _ (below_reach _ _)))))
                  refine wpQuiet_nil ?_
                  intro _ hw'
                  obtain ⟨p1, hw''⟩ := hw'
                  subst hw''
                  have kc2 := below_reach wr p1
                  obtain ⟨wc, hwc⟩ : ∃ W, reach wr p1 = W := ⟨_, rfl⟩
                  rw [hwc] at kc2 ⊢
                  clear hwc
                  have HE2 := Lib.hid (HK.out _ (HE.out.below kc2 hgw))
                  have hb3 := below_next hb2 kc2
                  clear dx dy hbx HCe HC kc2 hK q0 q1 hcs
                  go_wp2
                  go_roundw
                  case rel => exact ⟨i + 1, by go_num, by omega, by omega, HE2, hb3⟩
                  case measure => simp [intOf]; omega
              · obtain rfl : j = 0 := by omega
                have t2 : decide ((0 : Int) < ((0 : Nat) : Int)) = false := by simp
                have hS1 : S1 = [] := List.length_eq_zero_iff.1 hjl.symm
                have HE2 := Lib.hid (HK.out _ (HR2.out.same (by rw [HSS.out, hS1]; rfl)))
                clear hS1 hj0 hjl Hjl HR2 HSS HSm1
                go_wp2
                go_big_quiet (fail)
                go_wp2
                go_roundw
                case rel => exact ⟨i + 1, by go_num, by omega, by omega, Lib.hid HE2.out, below_drewN hb2 _⟩
                case measure => simp [intOf]; omega
          · obtain rfl : i = m := by omega
            have t1 : decide ((i : Int) < (i : Int)) = false := by simp
            have t1' : decide (i < i) = false := by simp
            have HE : Hid (Arr sv wr wr.heap.size (.slice (some ⟨g, 0, none⟩) i c2) R) := Lib.hid (by
              have e1 : sortS (ltT t) (l.take i) ++ l.drop i = R := by
                rw [HAll.out, List.take_of_length_le (by rw [HM.out]; exact Nat.le_refl _), List.drop_of_length_le (by rw [HM.out]; exact Nat.le_refl _), List.append_nil]
              have e2 : R.length = i := by rw [HAll.out, sortS_len, HM.out]
              have h1 := (HR.out.same e1).arr (B := wr.heap.size) (by obtain ⟨_, hb9, _⟩ := HR.out; exact hb9.lt) c2 (by rw [e2]; exact hcap)
              rw [e2] at h1
              exact h1)
            go_wp2
            go_ret
            exact ⟨_, _, _, rfl, HE.out, hb⟩

end Go.Proofs.YtafnjbmeponobaaGreatDoor

namespace Go.Proofs.YtafnjbmeponobaaGreatDoor
open Go.RowKit

set_option maxRecDepth 100000 in
set_option maxHeartbeats 6400000 in
theorem prKeyOwn_any (A : Option Addr) (n c : Nat) (t : List RuleL) (s : List UInt8) (w : World) (hS : Spans w) (hL : Ltt w w.heap.size (.slice A n c) (t.map letL)) (hv : validT t = true) (hs : s.length ≤ 500) :
    Calls Tryz.prog 42 #[.slice A n c, .string (str s)] w fun e w' => ∃ A' n' c', e = .returned (.slice A' n' c') ∧ w'.ownsRow w.heap.size 5 1 (.slice A' n' c') (keyB t s).length ((keyB t s).map bv) ∧ Below w.heap.size w w' := by
  have HK := Lib.hid (keyB_eq t s)
  have hnl := nD_len s
  have hdl : (dcF (nL s)).length ≤ 1000 := by
    have h1 := dcF_len (nL s)
    have h2 := nL_len s
    omega
  have HD := Lib.hid (prDecompose_s s w hS (by omega))
  have HOk : Hid (∀ e ∈ elsT t s, okE e) := Lib.hid (els_ok hv s)
  have HEls := Lib.hid (fun (W : World) (hW : Below w.heap.size w W) => prElements_any A n c (t.map letL) (nD s) (dcF (nL s)) W (hS.below hW) (hL.up hW) (valid_let hv) (dec_enc _ (dcF_ok s)) (fun c hc => ⟨(dc_facts s c hc).1, (dc_facts s c hc).2⟩) (by omega))
  obtain ⟨K, hK⟩ : ∃ K, keyB t s = K := ⟨_, rfl⟩
  have he : elemsL (t.map letL) (dcF (nL s)) = elsT t s := rfl
  rw [he] at HEls
  obtain ⟨els, hels⟩ : ∃ els, elsT t s = els := ⟨_, rfl⟩
  obtain ⟨dl, hdl2⟩ : ∃ dl, (dcF (nL s)).length = dl := ⟨_, rfl⟩
  obtain ⟨f, hf⟩ : ∃ f, nD s = f := ⟨_, rfl⟩
  rw [hf] at HD HK HEls hnl
  rw [hels] at HK HOk HEls
  rw [hdl2] at HEls hdl
  rw [hK] at HK ⊢
  clear hK he hels hdl2 hf hS hL hv
  go_enter Tryz.func42, Tryz.ntmps42
  go_wp2_with fail
  refine HD.out.mono ?_
  rintro e w1 ⟨rfl, k1⟩
  go_wp2_with fail
  refine (HEls.out _ k1).mono ?_
  rintro e w2 ⟨A2, n2, c2, rfl, hE2, hn2, k2⟩
  have hb2 := below_next k1 k2
  obtain ⟨V, hV⟩ : ∃ V, (w2.alloc (.cells #[.slice A2 n2 c2] 72)).alloc (.cells #[.slice none 0 0] 30) = V := ⟨_, rfl⟩
  have hAll := (Box.made w2 72 #[.slice A2 n2 c2]).alloc (.cells #[.slice none 0 0] 30)
  have hBox := Box.made (w2.alloc (.cells #[.slice A2 n2 c2] 72)) 30 #[.slice none 0 0]
  have hz : (w2.alloc (.cells #[.slice A2 n2 c2] 72)).heap.size = w2.heap.size + 1 := by simp
  have hbV : Below w2.heap.size w2 V := by rw [← hV]; exact ((Below.refl _ _).alloc (Nat.le_refl _) _).alloc (by simp) _
  rw [hz] at hBox
  rw [hV] at hAll hBox
  obtain ⟨P, hP⟩ : ∃ P, w2.heap.size + 1 = P := ⟨_, rfl⟩
  rw [hP] at hBox
  have hLP : w2.heap.size < P := by omega
  have hB0 : Buf V P (.slice none 0 0) [] := ⟨hBox, World.ownsRow_nil _ _ _ _⟩
  have hEV := (hE2.below hbV).more (Nat.le_of_lt hLP)
  have hn3 : n2 ≤ 3000 := by omega
  have hel : els.length = n2 := hE2.len
  have hpl := puts_len (fun e => (put_len3 e).1) els
  have hsl := puts_len (fun e => (put_len3 e).2.1) els
  have htl := puts_len (fun e => (put_len3 e).2.2) els
  have H1 := Lib.hid (levelPrim_any P w2.heap.size _ [] A2 n2 c2 els V hB0 hAll hEV HOk.out hLP (by simp; omega))
  obtain ⟨b1, hb1⟩ : ∃ b1, [] ++ els.flatMap putPrim ++ List.replicate 3 0 = b1 := ⟨_, rfl⟩
  have hl1 : b1.length ≤ 9003 := by rw [← hb1, List.nil_append, List.length_append, List.length_replicate]; omega
  rw [hb1] at H1 HK
  clear hBox hE2 hn2 hz hB0 hb1
  go_wp2_with fail
  refine H1.out.mono ?_
  rintro en w3 ⟨rfl, ⟨u3, hB3⟩, k3⟩
  have hAll3 := hAll.below k3 hLP
  have hEV3 := hEV.below k3
  have H2 := Lib.hid (levelSec_any P w2.heap.size u3 b1 A2 n2 c2 els w3 hB3 hAll3 hEV3 HOk.out hLP (by omega))
  obtain ⟨b2, hb2e⟩ : ∃ b2, b1 ++ els.flatMap putSec ++ List.replicate 1 0 = b2 := ⟨_, rfl⟩
  have hl2 : b2.length ≤ 18004 := by rw [← hb2e, List.length_append, List.length_append, List.length_replicate]; omega
  rw [hb2e] at H2 HK
  clear hAll hEV hb2e hB3
  go_wp2_with fail
  refine H2.out.mono ?_
  rintro en w4 ⟨rfl, ⟨u4, hB4⟩, k4⟩
  have hAll4 := hAll3.below k4 hLP
  have hEV4 := hEV3.below k4
  have H3 := Lib.hid (levelTer_any P w2.heap.size u4 b2 A2 n2 c2 els w4 hB4 hAll4 hEV4 HOk.out hLP (by omega))
  obtain ⟨b3, hb3e⟩ : ∃ b3, b2 ++ els.flatMap putTer ++ List.replicate 1 0 = b3 := ⟨_, rfl⟩
  have hl3 : b3.length ≤ 27005 := by rw [← hb3e, List.length_append, List.length_append, List.length_replicate]; omega
  rw [hb3e] at H3 HK
  clear hAll3 hEV3 hb3e hB4
  go_wp2_with fail
  refine H3.out.mono ?_
  rintro en w5 ⟨rfl, ⟨u5, hB5⟩, k5⟩
  have hPw : P + 1 ≤ w5.heap.size := hB5.box.lt
  obtain ⟨i0, hi, hz0, hz1, hz2⟩ := info_parts info_u8k
  obtain ⟨v7, w7, hr, hown7, hg7, -⟩ := Lib.run_append_own_string (P := Tryz.prog) w5 (P + 1) 30 9 30 5 i0 Tryz.underlying30 (by kernel_rfl) hi hz0 hz1 hz2 u5 _ _ hB5.own (str f) (by rw [str_size]; unfold maxLen; omega) (by rw [str_size]; omega) hPw
  rw [strCells_str, ← List.map_append, str_size, ← List.length_append] at hown7
  rw [← HK.out] at hown7
  have hb7 := below_own hB5.own hPw hg7
  have hA7 := Arr.of_own hown7
  obtain ⟨A7, N7, c7, rfl⟩ := hA7.form3
  have d5 : w5.cell? ⟨P, 0, none⟩ = some u5 := hB5.box.cell 0
  have hbE : Below w2.heap.size w2 w7 := hbV.trans (((k3.trans (k4.trans (k5.trans (hb7.mono (Nat.le_succ P)))))).mono (Nat.le_of_lt hLP))
  have hlow : w.heap.size ≤ P + 1 := by have := k1.size; have := k2.size; omega
  have HA7 := Lib.hid (own_less hlow hown7)
  clear hown7 hA7 hlow hB5 hg7 hb7 hAll4 hEV4
  go_wp2_with (at_builtin; refine Lib.wpList_append_run _ rfl (.tmp 24) (.tmp 25) _ _ rfl _ _ rfl rfl _ _ hr ?_)
  go_ret
  exact ⟨_, _, _, rfl, HA7.out, below_next hb2 hbE⟩

end Go.Proofs.YtafnjbmeponobaaGreatDoor

namespace Go.Proofs.YtafnjbmeponobaaGreatDoor
open Go.RowKit Go.Maps

def heldR (v : Value) : Option (DataW Value × List MemPlace) := some (.held v, [])
def nilH : DataW Value := .held (.slice none 0 0)
/-- In W the captured variable kp holds the map of block b, which has the keys of the strings L and no other. -/
structure Keys (W : World) (B b kp N : Nat) (D : DataW Value) (t : List RuleL) (L : List (List UInt8)) : Prop where
  box : Box W kp 84 #[.map (some b)]
  map : W.ownsMap Tryz.prog 9 heldR b N D
  yes : ∀ s ∈ L, ∃ a n c, D.atKey (.string s) nilH = .held (.slice (some ⟨a, 0, none⟩) n c) ∧ B ≤ a ∧ a < W.heap.size ∧ Arr bv W W.heap.size (.slice (some ⟨a, 0, none⟩) n c) (keyB t s)
  no : ∀ s, s ∉ L → D.atKey (.string s) nilH = nilH
theorem arr_block {α : Type} {val : α → Value} {W W' : World} {a n c : Nat} {xs : List α} (h : Arr val W W.heap.size (.slice (some ⟨a, 0, none⟩) n c) xs) (hs : W.heap.size ≤ W'.heap.size) (hk : W'.heap[a]? = W.heap[a]?) : Arr val W' W'.heap.size (.slice (some ⟨a, 0, none⟩) n c) xs := by
  rcases h with ⟨e, _⟩ | ⟨ad, c', e, hc, hb, hcell⟩
  · cases e
  · injection e with e1 e2 e3
    injection e1 with e1
    subst e1
    refine .inr ⟨_, c', by rw [e2, e3], hc, fun h0 => Nat.lt_of_lt_of_le (hb h0) hs, fun i u hu => ?_⟩
    rw [← hcell i u hu, plain_add]
    exact World.cell?_of_block hk
theorem Keys.grown {W W' : World} {B b kp N : Nat} {D : DataW Value} {t : List RuleL} {L : List (List UInt8)} (h : Keys W B b kp N D t L) {row : Option Nat} (hg : W.grownBy W' row) (h1 : row ≠ some b) (h2 : row ≠ some kp) (h3 : ∀ g, row = some g → g < B) : Keys W' B b kp N D t L := by
  refine ⟨(hg.block kp h.box.lt (fun e => h2 e.symm)).trans h.box, h.map.kept hg (fun e => h1 e.symm), fun s hs => ?_, h.no⟩
  obtain ⟨a, n, c, e1, e2, e3, e4⟩ := h.yes s hs
  refine ⟨a, n, c, e1, e2, Nat.lt_of_lt_of_le e3 hg.size, arr_block e4 hg.size (hg.block a e3 fun e => ?_)⟩
  have := h3 a e.symm
  omega
theorem Keys.drewN {W : World} {B b kp N : Nat} {D : DataW Value} {t : List RuleL} {L : List (List UInt8)} (h : Keys W B b kp N D t L) (q : Nat) : Keys (W.drewN q) B b kp N D t L := ⟨h.box, h.map, h.yes, h.no⟩
theorem heldR_inv {v u : Value} {ps : List MemPlace} (h : heldR v = some (.held u, ps)) : v = u := by
  unfold heldR at h
  simp at h
  exact h.1
theorem key_lit (s : List UInt8) (hs : s.length ≤ 1000000) : keyOf Tryz.prog 9 (.string (str s)) = some (.string s) := by
  have hkey : keyOf Tryz.prog 9 (.string (str s)) = some (.string (str s).data.toList) := WideMaps.keyOf_string_mk (P := Tryz.prog) Tryz.underlying9 (by rw [str_size]; unfold maxLen; omega)
  have ep : (str s).data.toList = s := by simp [str]
  rw [ep] at hkey
  exact hkey
theorem held_look {D : DataW Value} {b N : Nat} {W : World} (hown : W.ownsMap Tryz.prog 9 heldR b N D) (s : List UInt8) (hs : s.length ≤ 1000000) {u : Value} (hu : D.atKey (.string s) nilH = .held u) :
    (Instr.lookup 84 (.map (some b)) (.string (str s)) false).run Tryz.prog W = .ok u W := by
  obtain ⟨v, ps, hrun, hv⟩ := hown.lookup (string_keyed Tryz.underlying9) Tryz.underlying84 (Tryz.zeroValue30 W) (zd := nilH) (zp := []) rfl (key_lit s hs)
  rw [hu] at hv
  rw [hrun, heldR_inv hv]
def cmpS (kp : Nat) : Value := .func (.func 60) #[] #[.pointer (some ⟨kp, 0, none⟩)]

set_option maxRecDepth 20000 in
set_option maxHeartbeats 3200000 in
theorem sort1_any (x y : List UInt8) (B b kp N : Nat) (D : DataW Value) (t : List RuleL) (L : List (List UInt8)) (W : World) (hK : Keys W B b kp N D t L) (hx : x ∈ L) (hy : y ∈ L) (hls : ∀ s ∈ L, s.length ≤ 1000000) (hgd : ∀ s ∈ L, goodT t s = true) :
    Calls Tryz.prog 60 #[.string (str x), .string (str y), .pointer (some ⟨kp, 0, none⟩)] W fun e w' => e = .returned (.int .i64 (nCmp t x y)) ∧ ∃ q, w' = W.drewN q := by
  obtain ⟨a1, n1, c1, e1, -, -, h1⟩ := hK.yes x hx
  obtain ⟨a2, n2, c2, e2, -, -, h2⟩ := hK.yes y hy
  have l1 := held_look hK.map x (hls x hx) e1
  have l2 := held_look hK.map y (hls y hy) e2
  have d0 : W.cell? ⟨kp, 0, none⟩ = some (.map (some b)) := hK.box.cell 0
  have HC := Lib.hid (bytesCompare_any (some ⟨a1, 0, none⟩) n1 c1 (some ⟨a2, 0, none⟩) n2 c2 _ _ _ W h1 h2)
  have hO : ordB (keyB t x) (keyB t y) = nCmp t x y := by
    have h3 := nKey_order (hgd x hx) (hgd y hy)
    rwa [nKey_good (hgd x hx), nKey_good (hgd y hy)] at h3
  rw [hO] at HC
  obtain ⟨r, hr⟩ : ∃ r, nCmp t x y = r := ⟨_, rfl⟩
  rw [hr] at HC ⊢
  clear hK hx hy hls hgd e1 e2 h1 h2 hO hr
  go_enter Tryz.func60, Tryz.ntmps60
  go_wp2_with fail
  refine HC.out.mono ?_
  rintro e w1 ⟨rfl, rfl⟩
  go_wp2
  go_ret
  exact ⟨rfl, 0, rfl⟩

end Go.Proofs.YtafnjbmeponobaaGreatDoor
