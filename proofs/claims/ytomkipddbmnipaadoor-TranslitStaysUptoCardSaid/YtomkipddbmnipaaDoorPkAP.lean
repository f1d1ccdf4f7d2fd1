/-
  The program's To, Back, Covers.
  The program's tables: read from one string each, by strings.Split and strings.Cut.
  The reference's Back of translit, and its tables.
  The reference's tables of translit.
  The contracts of the program's own translit, together with those of the reference.
-/
import Derived.Test.YtomkipddbmnipaaDoorPkAO
import Derived.Test.YtomkipddbmnipaaDoorPkAG
import Derived.Deep.RegionLaw
import Derived.Great.BuildSlice
namespace Go.Proofs.YtomkipddbmnipaaDoor
open Go.RowKit Go.Sort

theorem goodDir_true {t : List RuleL} (hv : ValidL t) (h : ∀ x ∈ t, x.1.length ≤ 1000 ∧ x.2.length ≤ 1000) : GoodDir true t := ⟨by rw [dir_true]; exact good_of hv, h, by have := hv.few; omega⟩
theorem goodDir_false {t : List RuleL} (hv : ValidL t) (h : ∀ x ∈ t, x.1.length ≤ 1000 ∧ x.2.length ≤ 1000) : GoodDir false t := ⟨by rw [dir_false]; exact good_rev hv, h, by have := hv.few; omega⟩

set_option maxRecDepth 20000 in
set_option maxHeartbeats 6400000 in
theorem prTo7_any (A : Option Addr) (n c : Nat) (t : List RuleL) (s : List UInt8) (w : World) (hS : Ready7 w) (h : Table w A n c t) (hlen : s.length ≤ 5000) :
    Calls Tryd.prog 17 #[.slice A n c, .string (str s)] w fun e w' => e = .returned (.string (str (toL t s))) ∧ Below w.heap.size w w' := by
  have HT := Lib.hid h
  have HL := Lib.hid h.arr.len
  have HRdy := Lib.hid hS
  have HV := Lib.hid (prValid7_any A n c t w hS h)
  have HE := Lib.hid fun W (hW : Below w.heap.size w W) => prEnc7_any s W (hS.below hW) (by omega)
  have hsh := Lib.hid h.short
  obtain ⟨R, hR⟩ : ∃ R, toL t s = R := ⟨_, rfl⟩
  rw [hR]
  have HR := Lib.hid hR
  obtain ⟨v, hv⟩ : ∃ v, validL t = v := ⟨_, rfl⟩
  obtain ⟨b, hb⟩ : ∃ b, (decR s).isSome = b := ⟨_, rfl⟩
  rw [hv] at HV
  rw [hb] at HE
  have HVv := Lib.hid hv
  have HBb := Lib.hid hb
  clear hR hv hS hb h
  cases v with
  | false =>
    have HQ : Hid (R = []) := Lib.hid (by rw [← HR.out]; unfold toL; rw [HVv.out]; simp)
    go_enter Tryd.func17, Tryd.ntmps17
    go_wp2_with fail
    refine HV.out.mono ?_
    rintro e w1 ⟨rfl, k1⟩
    go_wp2
    go_ret
    rw [HQ.out]
    exact ⟨rfl, k1⟩
  | true =>
    cases b with
    | false =>
      have HQ : Hid (R = []) := Lib.hid (by rw [← HR.out]; unfold toL; rw [HVv.out, HBb.out]; simp)
      go_enter Tryd.func17, Tryd.ntmps17
      go_wp2_with fail
      refine HV.out.mono ?_
      rintro e w1 ⟨rfl, k1⟩
      go_wp2_with fail
      refine (HE.out _ k1).mono ?_
      rintro e w2 ⟨rfl, k2⟩
      have hbw := below_next k1 k2
      go_wp2
      go_ret
      rw [HQ.out]
      exact ⟨rfl, hbw⟩
    | true =>
      obtain ⟨L, hL⟩ := Option.isSome_iff_exists.1 HBb.out
      have HLd := Lib.hid hL
      have hvl := valid_of HVv.out
      have HGd := Lib.hid (goodDir_true hvl hsh.out)
      have hn0 : 0 < n := by have := hvl.some; have := HL.out; omega
      have HQ : Hid (R = (runL (t.map (pick true)) s).1) := Lib.hid (by rw [← HR.out]; unfold toL; rw [HVv.out, HBb.out, dir_true]; simp)
      clear hL hvl
      go_enter Tryd.func17, Tryd.ntmps17
      go_wp2_with fail
      refine HV.out.mono ?_
      rintro e w1 ⟨rfl, k1⟩
      go_wp2_with fail
      refine (HE.out _ k1).mono ?_
      rintro e w2 ⟨rfl, k2⟩
      have hb2 := below_next k1 k2
      have HF := Lib.hid (forth_any A n c t w2 (HT.out.up hb2) hn0)
      clear k1 k2
      go_wp2_with fail
      refine HF.out.mono ?_
      rintro e w3 ⟨v3, rfl, ⟨g, cap, M, hgB, rfl, hM, hRow⟩, k3⟩
      have hb3 := below_next hb2 k3
      have HW := Lib.hid (writeF_any t g t.length cap M s L w3 (HRdy.out.below hb3) rfl HGd.out hM hRow HLd.out hlen)
      clear hM hRow k3 hgB HF
      unfold sidesV
      go_wp2_with fail
      refine HW.out.mono ?_
      rintro e w4 ⟨rfl, k4⟩
      have hb4 := below_next hb3 k4
      clear HW
      go_wp2
      go_ret
      rw [HQ.out]
      exact ⟨rfl, hb4⟩

set_option maxRecDepth 20000 in
set_option maxHeartbeats 6400000 in
theorem prBack7_any (A : Option Addr) (n c : Nat) (t : List RuleL) (s : List UInt8) (w : World) (hS : Ready7 w) (h : Table w A n c t) (hlen : s.length ≤ 5000) :
    Calls Tryd.prog 19 #[.slice A n c, .string (str s)] w fun e w' => e = .returned (.string (str (backL t s))) ∧ Below w.heap.size w w' := by
  have HT := Lib.hid h
  have HL := Lib.hid h.arr.len
  have HRdy := Lib.hid hS
  have HV := Lib.hid (prValid7_any A n c t w hS h)
  have HE := Lib.hid fun W (hW : Below w.heap.size w W) => prEnc7_any s W (hS.below hW) (by omega)
  have hsh := Lib.hid h.short
  obtain ⟨R, hR⟩ : ∃ R, backL t s = R := ⟨_, rfl⟩
  rw [hR]
  have HR := Lib.hid hR
  obtain ⟨v, hv⟩ : ∃ v, validL t = v := ⟨_, rfl⟩
  obtain ⟨b, hb⟩ : ∃ b, (decR s).isSome = b := ⟨_, rfl⟩
  rw [hv] at HV
  rw [hb] at HE
  have HVv := Lib.hid hv
  have HBb := Lib.hid hb
  clear hR hv hS hb h
  cases v with
  | false =>
    have HQ : Hid (R = []) := Lib.hid (by rw [← HR.out]; unfold backL; rw [HVv.out]; simp)
    go_enter Tryd.func19, Tryd.ntmps19
    go_wp2_with fail
    refine HV.out.mono ?_
    rintro e w1 ⟨rfl, k1⟩
    go_wp2
    go_ret
    rw [HQ.out]
    exact ⟨rfl, k1⟩
  | true =>
    cases b with
    | false =>
      have HQ : Hid (R = []) := Lib.hid (by rw [← HR.out]; unfold backL; rw [HVv.out, HBb.out]; simp)
      go_enter Tryd.func19, Tryd.ntmps19
      go_wp2_with fail
      refine HV.out.mono ?_
      rintro e w1 ⟨rfl, k1⟩
      go_wp2_with fail
      refine (HE.out _ k1).mono ?_
      rintro e w2 ⟨rfl, k2⟩
      have hbw := below_next k1 k2
      go_wp2
      go_ret
      rw [HQ.out]
      exact ⟨rfl, hbw⟩
    | true =>
      obtain ⟨L, hL⟩ := Option.isSome_iff_exists.1 HBb.out
      have HLd := Lib.hid hL
      have hvl := valid_of HVv.out
      have HGd := Lib.hid (goodDir_false hvl hsh.out)
      have hn0 : 0 < n := by have := hvl.some; have := HL.out; omega
      have HQ : Hid (R = (runL (t.map (pick false)) s).1) := Lib.hid (by rw [← HR.out]; unfold backL; rw [HVv.out, HBb.out, dir_false]; simp)
      clear hL hvl
      go_enter Tryd.func19, Tryd.ntmps19
      go_wp2_with fail
      refine HV.out.mono ?_
      rintro e w1 ⟨rfl, k1⟩
      go_wp2_with fail
      refine (HE.out _ k1).mono ?_
      rintro e w2 ⟨rfl, k2⟩
      have hb2 := below_next k1 k2
      have HF := Lib.hid (back_any A n c t w2 (HT.out.up hb2) hn0)
      clear k1 k2
      go_wp2_with fail
      refine HF.out.mono ?_
      rintro e w3 ⟨v3, rfl, ⟨g, cap, M, hgB, rfl, hM, hRow⟩, k3⟩
      have hb3 := below_next hb2 k3
      have HW := Lib.hid (writeB_any t g t.length cap M s L w3 (HRdy.out.below hb3) rfl HGd.out hM hRow HLd.out hlen)
      clear hM hRow k3 hgB HF
      unfold sidesV
      go_wp2_with fail
      refine HW.out.mono ?_
      rintro e w4 ⟨rfl, k4⟩
      have hb4 := below_next hb3 k4
      clear HW
      go_wp2
      go_ret
      rw [HQ.out]
      exact ⟨rfl, hb4⟩

set_option maxRecDepth 20000 in
set_option maxHeartbeats 6400000 in
theorem prCovers7_any (A : Option Addr) (n c : Nat) (t : List RuleL) (s : List UInt8) (w : World) (hS : Ready7 w) (h : Table w A n c t) (hlen : s.length ≤ 5000) :
    Calls Tryd.prog 21 #[.slice A n c, .string (str s)] w fun e w' => e = .returned (.bool (coversL t s)) ∧ Below w.heap.size w w' := by
  have HT := Lib.hid h
  have HL := Lib.hid h.arr.len
  have HRdy := Lib.hid hS
  have HV := Lib.hid (prValid7_any A n c t w hS h)
  have HE := Lib.hid fun W (hW : Below w.heap.size w W) => prEnc7_any s W (hS.below hW) (by omega)
  have hsh := Lib.hid h.short
  obtain ⟨R, hR⟩ : ∃ R, coversL t s = R := ⟨_, rfl⟩
  rw [hR]
  have HR := Lib.hid hR
  obtain ⟨v, hv⟩ : ∃ v, validL t = v := ⟨_, rfl⟩
  obtain ⟨b, hb⟩ : ∃ b, (decR s).isSome = b := ⟨_, rfl⟩
  rw [hv] at HV
  rw [hb] at HE
  have HVv := Lib.hid hv
  have HBb := Lib.hid hb
  clear hR hv hS hb h
  cases v with
  | false =>
    have HQ : Hid (R = false) := Lib.hid (by rw [← HR.out]; unfold coversL; rw [HVv.out]; simp)
    go_enter Tryd.func21, Tryd.ntmps21
    go_wp2_with fail
    refine HV.out.mono ?_
    rintro e w1 ⟨rfl, k1⟩
    go_wp2
    go_ret
    rw [HQ.out]
    exact ⟨rfl, k1⟩
  | true =>
    cases b with
    | false =>
      have HQ : Hid (R = false) := Lib.hid (by rw [← HR.out]; unfold coversL; rw [HVv.out, HBb.out]; simp)
      go_enter Tryd.func21, Tryd.ntmps21
      go_wp2_with fail
      refine HV.out.mono ?_
      rintro e w1 ⟨rfl, k1⟩
      go_wp2_with fail
      refine (HE.out _ k1).mono ?_
      rintro e w2 ⟨rfl, k2⟩
      have hbw := below_next k1 k2
      go_wp2
      go_ret
      rw [HQ.out]
      exact ⟨rfl, hbw⟩
    | true =>
      obtain ⟨L, hL⟩ := Option.isSome_iff_exists.1 HBb.out
      have HLd := Lib.hid hL
      have hvl := valid_of HVv.out
      have HGd := Lib.hid (goodDir_true hvl hsh.out)
      have hn0 : 0 < n := by have := hvl.some; have := HL.out; omega
      have HQ : Hid (R = decide ((runL (t.map (pick true)) s).2 = 0)) := Lib.hid (by rw [← HR.out]; unfold coversL; rw [HVv.out, HBb.out, dir_true]; simp)
      clear hL hvl
      go_enter Tryd.func21, Tryd.ntmps21
      go_wp2_with fail
      refine HV.out.mono ?_
      rintro e w1 ⟨rfl, k1⟩
      go_wp2_with fail
      refine (HE.out _ k1).mono ?_
      rintro e w2 ⟨rfl, k2⟩
      have hb2 := below_next k1 k2
      have HF := Lib.hid (forth_any A n c t w2 (HT.out.up hb2) hn0)
      clear k1 k2
      go_wp2_with fail
      refine HF.out.mono ?_
      rintro e w3 ⟨v3, rfl, ⟨g, cap, M, hgB, rfl, hM, hRow⟩, k3⟩
      have hb3 := below_next hb2 k3
      have HW := Lib.hid (writeF_any t g t.length cap M s L w3 (HRdy.out.below hb3) rfl HGd.out hM hRow HLd.out hlen)
      clear hM hRow k3 hgB HF
      unfold sidesV
      go_wp2_with fail
      refine HW.out.mono ?_
      rintro e w4 ⟨rfl, k4⟩
      have hb4 := below_next hb3 k4
      clear HW
      go_wp2
      go_ret
      rw [HQ.out]
      exact ⟨rfl, hb4⟩

end Go.Proofs.YtomkipddbmnipaaDoor

namespace Go.Proofs.YtomkipddbmnipaaDoor
open Go.RowKit

def cyrSrc : List UInt8 := [208, 176, 32, 97, 44, 32, 208, 177, 32, 98, 44, 32, 208, 178, 32, 118, 44, 32, 208, 179, 32, 103, 44, 32, 208, 180, 32, 100, 44, 32, 208, 181, 32, 101, 44, 32, 209, 145, 32, 195, 171, 44, 32, 208, 182, 32, 197, 190, 44, 32, 208, 183, 32, 122, 44, 32, 208, 184, 32, 105, 44, 32, 208, 185, 32, 106, 44, 32, 208, 186, 32, 107, 44, 32, 208, 187, 32, 108, 44, 32, 208, 188, 32, 109, 44, 32, 208, 189, 32, 110, 44, 32, 208, 190, 32, 111, 44, 32, 208, 191, 32, 112, 44, 32, 209, 128, 32, 114, 44, 32, 209, 129, 32, 115, 44, 32, 209, 130, 32, 116, 44, 32, 209, 131, 32, 117, 44, 32, 209, 132, 32, 102, 44, 32, 209, 133, 32, 104, 44, 32, 209, 134, 32, 99, 44, 32, 209, 135, 32, 196, 141, 44, 32, 209, 136, 32, 197, 161, 44, 32, 209, 137, 32, 197, 157, 44, 32, 209, 138, 32, 34, 44, 32, 209, 139, 32, 121, 44, 32, 209, 140, 32, 39, 44, 32, 209, 141, 32, 195, 168, 44, 32, 209, 142, 32, 195, 187, 44, 32, 209, 143, 32, 195, 162, 44, 32, 208, 144, 32, 65, 44, 32, 208, 145, 32, 66, 44, 32, 208, 146, 32, 86, 44, 32, 208, 147, 32, 71, 44, 32, 208, 148, 32, 68, 44, 32, 208, 149, 32, 69, 44, 32, 208, 129, 32, 195, 139, 44, 32, 208, 150, 32, 197, 189, 44, 32, 208, 151, 32, 90, 44, 32, 208, 152, 32, 73, 44, 32, 208, 153, 32, 74, 44, 32, 208, 154, 32, 75, 44, 32, 208, 155, 32, 76, 44, 32, 208, 156, 32, 77, 44, 32, 208, 157, 32, 78, 44, 32, 208, 158, 32, 79, 44, 32, 208, 159, 32, 80, 44, 32, 208, 160, 32, 82, 44, 32, 208, 161, 32, 83, 44, 32, 208, 162, 32, 84, 44, 32, 208, 163, 32, 85, 44, 32, 208, 164, 32, 70, 44, 32, 208, 165, 32, 72, 44, 32, 208, 166, 32, 67, 44, 32, 208, 167, 32, 196, 140, 44, 32, 208, 168, 32, 197, 160, 44, 32, 208, 169, 32, 197, 156, 44, 32, 208, 171, 32, 89, 44, 32, 208, 173, 32, 195, 136, 44, 32, 208, 174, 32, 195, 155, 44, 32, 208, 175, 32, 195, 130]
def greekSrc : List UInt8 := [206, 177, 32, 97, 44, 32, 206, 178, 32, 98, 44, 32, 206, 179, 32, 103, 44, 32, 206, 180, 32, 100, 44, 32, 206, 181, 32, 101, 44, 32, 206, 182, 32, 122, 44, 32, 206, 183, 32, 196, 147, 44, 32, 206, 184, 32, 116, 104, 44, 32, 206, 185, 32, 105, 44, 32, 206, 186, 32, 107, 44, 32, 206, 187, 32, 108, 44, 32, 206, 188, 32, 109, 44, 32, 206, 189, 32, 110, 44, 32, 206, 190, 32, 120, 44, 32, 206, 191, 32, 111, 44, 32, 207, 128, 32, 112, 44, 32, 207, 129, 32, 114, 44, 32, 207, 131, 32, 115, 44, 32, 207, 130, 32, 115, 44, 32, 207, 132, 32, 116, 44, 32, 207, 133, 32, 121, 44, 32, 207, 134, 32, 112, 104, 44, 32, 207, 135, 32, 99, 104, 44, 32, 207, 136, 32, 112, 115, 44, 32, 207, 137, 32, 197, 141, 44, 32, 206, 191, 207, 133, 32, 111, 117, 44, 32, 206, 179, 206, 179, 32, 110, 103, 44, 32, 206, 179, 206, 186, 32, 110, 107]
/-- A rule as the document writes it. -/
def ruleOf (p : List UInt8) : RuleL := ((Lib.cut p [32]).1, (Lib.cut p [32]).2.1)
def partsOf (s : List UInt8) : List (List UInt8) := Lib.splitK [44, 32] 0 (Lib.count s [44, 32]) s
theorem cyr_read : (partsOf cyrSrc).map ruleOf = cyrT := by kernel_rfl
theorem greek_read : (partsOf greekSrc).map ruleOf = greekT := by kernel_rfl
theorem cyr_count : Lib.count cyrSrc [44, 32] + 1 = 64 := by kernel_rfl
theorem greek_count : Lib.count greekSrc [44, 32] + 1 = 28 := by kernel_rfl
theorem cyr_parts : (partsOf cyrSrc).length = 64 := by kernel_rfl
theorem greek_parts : (partsOf greekSrc).length = 28 := by kernel_rfl
theorem cyr_len : cyrSrc.length ≤ 1000 := of_decide_eq_true (by kernel_rfl)
theorem greek_len : greekSrc.length ≤ 1000 := of_decide_eq_true (by kernel_rfl)
theorem cyr_short : (cyrT.all fun x => decide (x.1.length ≤ 1000) && decide (x.2.length ≤ 1000)) = true := by kernel_rfl
theorem greek_short : (greekT.all fun x => decide (x.1.length ≤ 1000) && decide (x.2.length ≤ 1000)) = true := by kernel_rfl
theorem cyr_partlen : ((partsOf cyrSrc).all fun x => decide (x.length ≤ 1000)) = true := by kernel_rfl
theorem greek_partlen : ((partsOf greekSrc).all fun x => decide (x.length ≤ 1000)) = true := by kernel_rfl
theorem info_str9 : (Tryd.prog.info? 9).map (fun i => (i.zero, i.size, i.bytes)) = some (some (.string ByteArray.empty), 1, 16) := by kernel_rfl

theorem str_back (x : ByteArray) : str x.data.toList = x := by
  apply ByteArray.ext
  simp [str]
theorem split_cells (s : List UInt8) : (Lib.splitB (str [44, 32]) 0 (Lib.countB (str s) (str [44, 32])) (str s)).map Value.string = (partsOf s).map (fun p => Value.string (str p)) := by
  have h := Lib.splitB_data (str [44, 32]) 0 (Lib.countB (str s) (str [44, 32])) (str s)
  have e1 : (str s).data.toList = s := by simp [str]
  have e2 : (str [44, 32]).data.toList = [44, 32] := by simp [str]
  have hc : Lib.countB (str s) (str [44, 32]) = Lib.count s [44, 32] := by show Lib.count _ _ = _; rw [e1, e2]
  rw [hc, e1, e2] at h
  unfold partsOf
  rw [← h, hc, List.map_map]
  apply List.map_congr_left
  intro x _
  show Value.string x = Value.string (str x.data.toList)
  rw [str_back]
theorem split_any (s : List UInt8) (w : World) (hS : Ready7 w) (hs : s.length ≤ 1000) :
    Calls Tryd.prog 55 #[.string (str s), .string (str [44, 32])] w fun e w' => e = .returned (.slice (some ⟨w.heap.size, 0, none⟩) (Lib.count s [44, 32] + 1) (Lib.count s [44, 32] + 1)) ∧ w' = w.alloc (.cells ((partsOf s).map (fun p => Value.string (str p))).toArray 9) := by
  obtain ⟨_, ⟨m, hm⟩, _, _⟩ := hS
  have h1 := Any.strings_Split splitLays info_str9 (str s) (str [44, 32]) m w (by rw [str_size]; omega) hm (by rw [str_size]; decide)
  have h2 : Calls Tryd.prog 55 #[.string (str s), .string (str [44, 32])] w _ := h1
  refine h2.mono ?_
  rintro e w' ⟨rfl, rfl⟩
  have e1 : (str s).data.toList = s := by simp [str]
  have e2 : (str [44, 32]).data.toList = [44, 32] := by simp [str]
  have hc : Lib.countB (str s) (str [44, 32]) = Lib.count s [44, 32] := by show Lib.count _ _ = _; rw [e1, e2]
  rw [split_cells, hc]
  exact ⟨rfl, rfl⟩
theorem cut_any (p : List UInt8) (w : World) (hS : Ready7 w) (hs : p.length ≤ 1000) :
    Calls Tryd.prog 56 #[.string (str p), .string (str [32])] w fun e w' => (∃ b : Bool, e = .returned (.tuple #[.string (str (ruleOf p).1), .string (str (ruleOf p).2), .bool b])) ∧ ∃ n, w' = w.drewN n := by
  obtain ⟨_, ⟨m, hm⟩, _, _⟩ := hS
  have h1 := Any.strings_Cut cutLays (str p) (str [32]) m w (by rw [str_size]; omega) hm
  have h2 : Calls Tryd.prog 56 #[.string (str p), .string (str [32])] w _ := h1
  refine h2.mono ?_
  rintro e w' ⟨rfl, hn⟩
  have e1 : (str p).data.toList = p := by simp [str]
  have e2 : (str [32]).data.toList = [32] := by simp [str]
  rw [e1, e2]
  exact ⟨⟨_, rfl⟩, hn⟩

set_option maxRecDepth 100000 in
set_option maxHeartbeats 6400000 in
theorem rules_any (s : List UInt8) (T : List RuleL) (n : Nat) (w : World) (hS : Ready7 w) (hs : s.length ≤ 1000) (hT : (partsOf s).map ruleOf = T) (hc : Lib.count s [44, 32] + 1 = n) (hl : (partsOf s).length = n) (hp : ∀ x ∈ partsOf s, x.length ≤ 1000) (hn : n ≤ 1000) :
    Calls Tryd.prog 43 #[.string (str s)] w fun e w' => ∃ A c, e = .returned (.slice A n c) ∧ SArr 2 rv w' w'.heap.size (.slice A n c) T ∧ Below w.heap.size w w' := by
  have HSp := Lib.hid (split_any s w hS hs)
  rw [hc] at HSp
  obtain ⟨X, hX⟩ : ∃ X, partsOf s = X := ⟨_, rfl⟩
  rw [hX] at HSp hT hl hp
  have HTl : Hid (T.length = n) := Lib.hid (by rw [← hT, List.length_map, hl])
  have HT := Lib.hid hT
  have HXl := Lib.hid hl
  have HPl := Lib.hid hp
  have HRdy := Lib.hid hS
  obtain ⟨ws, hws⟩ : ∃ ws, w.alloc (.cells (X.map (fun p => Value.string (str p))).toArray 9) = ws := ⟨_, rfl⟩
  rw [hws] at HSp
  have hbs : Below w.heap.size w ws := by rw [← hws]; exact (Below.refl _ _).alloc (Nat.le_refl _) _
  have hss : ws.heap.size = w.heap.size + 1 := by rw [← hws]; simp
  have HCell : Hid (∀ j p, X[j]? = some p → ws.cell? ⟨w.heap.size, j, none⟩ = some (.string (str p))) := Lib.hid (by
    intro j p hj
    have h1 := cells_made (cs := X.map (fun p => Value.string (str p))) w 9 j (.string (str p)) (by rw [List.getElem?_map, hj]; rfl)
    rw [plain_add, hws] at h1
    exact h1)
  clear hT hX hc hl hp hS hws
  go_enter Tryd.func43, Tryd.ntmps43
  go_wp2_with fail
  refine HSp.out.mono ?_
  rintro e w1 ⟨rfl, rfl⟩
  go_wp2
  go_loopw [3, 12] (fun v i wr => ∃ k : Nat, k ≤ n ∧ i = .int .i64 (k : Int) ∧ Hid (wr.ownsRow (w.heap.size + 1) 41 2 v (T.take k).length ((T.take k).flatMap rv)) ∧ Below (w.heap.size + 1) w1 wr) (fun _ i _ => n - (intOf i).toNat)
  case atStart => exact ⟨0, by omega, rfl, Lib.hid (World.ownsRow_nil _ _ _ _), Below.refl _ _⟩
  case round =>
    obtain ⟨k, hk, rfl, HO, hb⟩ := hrel
    have hbz := hb.size
    rw [hss] at hbz
    have hbw : Below w.heap.size w wr := hbs.trans (hb.mono (Nat.le_succ _))
    by_cases hlt : k < n
    · have t1 : decide ((k : Int) < (n : Int)) = true := by simp; omega
      have kz : (k : Int) < (n : Int) := by omega
      obtain ⟨p, hp⟩ : ∃ p, X[k]? = some p := ⟨_, List.getElem?_eq_getElem (by rw [HXl.out]; exact hlt)⟩
      have d0 := (hb.cell (p := ⟨w.heap.size, k, none⟩) (Nat.lt_succ_self _)).trans (HCell.out k p hp)
      have HCut := Lib.hid (cut_any p wr (HRdy.out.below hbw) (HPl.out p (List.mem_of_getElem? hp)))
      have hTk : T[k]? = some (ruleOf p) := by rw [← HT.out, List.getElem?_map, hp]; rfl
      obtain ⟨x, hx⟩ : ∃ x, ruleOf p = x := ⟨_, rfl⟩
      rw [hx] at HCut hTk
      have HTn : Hid (T.take (k + 1) = T.take k ++ [x]) := Lib.hid (take_next hTk)
      have hrl : (T.take k).length ≤ 1000 := by rw [List.length_take]; omega
      obtain ⟨O, hO⟩ : ∃ O, T.take k = O := ⟨_, rfl⟩
      rw [hO] at HO HTn hrl
      clear hp hTk hx hO
      go_wp2_with fail
      refine HCut.out.mono ?_
      rintro e w2 ⟨⟨b, rfl⟩, ⟨q, rfl⟩⟩
      have hown : (wr.drewN q).ownsRow (w.heap.size + 1) 41 2 _ O.length (O.flatMap rv) := HO.out
      obtain ⟨A4, c4, h4⟩ := (SArr.of_own rv_len hown).form
      obtain ⟨M, hM⟩ : ∃ M, O.length = M := ⟨_, rfl⟩
      have HM := Lib.hid hM
      rw [hM] at h4 hrl
      subst h4
      clear hM
      have hol : O.length ≤ 1000000000000 - 1 := by rw [HM.out]; omega
      have hbq : Below (w.heap.size + 1) w1 (wr.drewN q) := below_drewN hb q
      have hN1 : (wr.drewN q).heap.size = wr.heap.size := rfl
      go_wp2_with (at_builtin; refine append_struct (val := rv) 25 41 (.agg #[.string ⟨#[]⟩, .string ⟨#[]⟩]) 32 Tryd.underlying25 info_ruleP rfl (by decide) (by decide) rv_len rv_one (wr.drewN q) rfl (.tmp 22) (.tmp 26) rfl (w.heap.size + 1) (.slice A4 M c4) O rfl hown x _ rfl wr.heap.size hN1 rfl hol hbz ?_; intro r3 w6 hown6 hb6)
      go_roundw
      case rel => exact ⟨k + 1, by omega, by go_num, Lib.hid (by rw [HTn.out]; exact hown6), hbq.trans hb6⟩
      case measure => simp [intOf]; omega
    · obtain rfl : k = n := by omega
      have t1 : decide ((k : Int) < (k : Int)) = false := by simp
      have hown := HO.out
      rw [List.take_of_length_le (by rw [HTl.out]; exact Nat.le_refl _)] at hown
      have hA := SArr.of_own rv_len hown
      obtain ⟨A2, c2, h2⟩ := hA.form
      rw [HTl.out] at h2
      subst h2
      have HA2 := Lib.hid hA
      clear hA hown HO
      go_wp2
      go_ret
      exact ⟨_, _, rfl, HA2.out, hbw⟩

set_option maxRecDepth 100000 in
set_option maxHeartbeats 6400000 in
theorem prCyr7_any (w : World) (hS : Ready7 w) :
    Calls Tryd.prog 25 #[] w fun e w' => ∃ A c, e = .returned (.slice A 64 c) ∧ Table w' A 64 c cyrT ∧ Below w.heap.size w w' := by
  have HC := Lib.hid (rules_any cyrSrc cyrT 64 w hS cyr_len cyr_read cyr_count cyr_parts (fun x hx => of_decide_eq_true (List.all_eq_true.1 cyr_partlen x hx)) (by decide))
  have HSt : Hid (∀ x ∈ cyrT, x.1.length ≤ 1000 ∧ x.2.length ≤ 1000) := Lib.hid fun x hx => by
    have h1 := List.all_eq_true.1 cyr_short x hx
    rw [Bool.and_eq_true] at h1
    exact ⟨of_decide_eq_true h1.1, of_decide_eq_true h1.2⟩
  go_enter Tryd.func25, Tryd.ntmps25
  go_wp2_with fail
  refine HC.out.mono ?_
  rintro e w1 ⟨A, c, rfl, hA, k1⟩
  have HA := Lib.hid hA
  clear hA HC
  go_wp2
  go_ret
  exact ⟨_, _, rfl, ⟨HA.out, by decide, HSt.out⟩, k1⟩

set_option maxRecDepth 100000 in
set_option maxHeartbeats 6400000 in
theorem prGreek7_any (w : World) (hS : Ready7 w) :
    Calls Tryd.prog 26 #[] w fun e w' => ∃ A c, e = .returned (.slice A 28 c) ∧ Table w' A 28 c greekT ∧ Below w.heap.size w w' := by
  have HC := Lib.hid (rules_any greekSrc greekT 28 w hS greek_len greek_read greek_count greek_parts (fun x hx => of_decide_eq_true (List.all_eq_true.1 greek_partlen x hx)) (by decide))
  have HSt : Hid (∀ x ∈ greekT, x.1.length ≤ 1000 ∧ x.2.length ≤ 1000) := Lib.hid fun x hx => by
    have h1 := List.all_eq_true.1 greek_short x hx
    rw [Bool.and_eq_true] at h1
    exact ⟨of_decide_eq_true h1.1, of_decide_eq_true h1.2⟩
  go_enter Tryd.func26, Tryd.ntmps26
  go_wp2_with fail
  refine HC.out.mono ?_
  rintro e w1 ⟨A, c, rfl, hA, k1⟩
  have HA := Lib.hid hA
  clear hA HC
  go_wp2
  go_ret
  exact ⟨_, _, rfl, ⟨HA.out, by decide, HSt.out⟩, k1⟩

end Go.Proofs.YtomkipddbmnipaaDoor

namespace Go.Proofs.YtomkipddbmnipaaDoor
open Go.RowKit

theorem info_rule7 : (Tryd.prog.info? 34).map (fun i => (i.zero, i.size, i.bytes)) = some (some (.agg #[.string ⟨#[]⟩, .string ⟨#[]⟩]), 2, 32) := by kernel_rfl
theorem rev_snoc (l : List RuleL) (x : RuleL) : revL (l ++ [x]) = revL l ++ [(x.2, x.1)] := by unfold revL; rw [List.map_append]; rfl
theorem rev_len (l : List RuleL) : (revL l).length = l.length := by unfold revL; rw [List.length_map]
theorem rev_short {t : List RuleL} (h : ∀ x ∈ t, x.1.length ≤ 1000 ∧ x.2.length ≤ 1000) : ∀ x ∈ revL t, x.1.length ≤ 1000 ∧ x.2.length ≤ 1000 := fun x hx => by
  obtain ⟨y, hy, rfl⟩ := List.mem_map.1 hx
  exact ⟨(h y hy).2, (h y hy).1⟩

set_option maxRecDepth 20000 in
set_option maxHeartbeats 3200000 in
theorem refBack7_any (A : Option Addr) (n c : Nat) (t : List RuleL) (s : List UInt8) (w : World) (h : Table w A n c t) (hlen : s.length ≤ 5000) :
    Calls Tryd.prog 20 #[.slice A n c, .string (str s)] w fun e w' => e = .returned (.string (str (backL t s))) ∧ Below w.heap.size w w' := by
  have HV := Lib.hid (refValid7_any A n c t w h)
  have HE := Lib.hid fun W => refEncoded7_any s W (by omega)
  have HT := Lib.hid h
  have HL := Lib.hid h.arr.len
  have hn := h.few
  have hR : backL t s = if validL t = true ∧ (decR s).isSome = true then (runL (revL t) s).1 else [] := rfl
  obtain ⟨R, hR2⟩ : ∃ R, backL t s = R := ⟨_, rfl⟩
  rw [hR2] at hR ⊢
  cases hv : validL t with
  | false =>
    have HR : Hid (R = []) := Lib.hid (by rw [hR, hv]; simp)
    rw [hv] at HV
    clear hR hR2 hv h
    go_enter Tryd.func20, Tryd.ntmps20
    go_wp2_with fail
    refine HV.out.mono ?_
    rintro e w1 ⟨rfl, k1⟩
    go_wp2
    go_ret
    rw [HR.out]
    exact ⟨rfl, k1⟩
  | true =>
    cases he : decR s with
    | none =>
      have HR : Hid (R = []) := Lib.hid (by rw [hR, he]; simp)
      rw [hv] at HV
      rw [he] at HE
      clear hR hR2 hv h he
      go_enter Tryd.func20, Tryd.ntmps20
      go_wp2_with fail
      refine HV.out.mono ?_
      rintro e w1 ⟨rfl, k1⟩
      go_wp2_with fail
      refine (HE.out _).mono ?_
      rintro e w2 ⟨rfl, k2⟩
      simp only [Option.isSome_none]
      go_wp2
      go_ret
      rw [HR.out]
      exact ⟨rfl, below_next k1 k2⟩
    | some L =>
      have HR : Hid (R = (runL (revL t) s).1) := Lib.hid (by rw [hR, hv, he]; simp)
      have HRu := Lib.hid fun A n c W (hW : Table W A n c (revL t)) => refRun_any A n c (revL t) s L W hW (good_rev (valid_of hv)) he hlen
      rw [hv] at HV
      rw [he] at HE
      obtain ⟨r1, hr1⟩ : ∃ r, (runL (revL t) s).1 = r := ⟨_, rfl⟩
      obtain ⟨r2, hr2⟩ : ∃ r, (runL (revL t) s).2 = r := ⟨_, rfl⟩
      rw [hr1, hr2] at HRu
      rw [hr1] at HR
      clear hR hR2 hv he hr1 hr2
      go_enter Tryd.func20, Tryd.ntmps20
      go_wp2_with fail
      refine HV.out.mono ?_
      rintro e w1 ⟨rfl, k1⟩
      go_wp2_with fail
      refine (HE.out _).mono ?_
      rintro e w2 ⟨rfl, k2⟩
      simp only [Option.isSome_some]
      have hb2 := below_next k1 k2
      have hb2s := hb2.size
      clear HV HE
      go_wp2
      go_loopw [5, 6] (fun v i wr => ∃ k : Nat, k ≤ n ∧ i = .int .i64 (k : Int) ∧ wr.ownsRow w2.heap.size 34 2 v (revL (t.take k)).length ((revL (t.take k)).flatMap rv) ∧ Below w2.heap.size w2 wr) (fun _ i _ => n - (intOf i).toNat)
      case atStart => exact ⟨0, by omega, rfl, World.ownsRow_nil _ _ _ _, Below.refl _ _⟩
      case round =>
        obtain ⟨k, hk, rfl, hown, hb⟩ := hrel
        have hbs := hb.size
        by_cases hlt : k < n
        · have t1 : decide ((k : Int) < (n : Int)) = true := by simp; omega
          have kz : (k : Int) < (n : Int) := by omega
          obtain ⟨b0, o0, rfl, hB0, hc0⟩ := h.cells (by omega)
          obtain ⟨x, hx⟩ : ∃ a, t[k]? = some a := ⟨_, List.getElem?_eq_getElem (by have := HL.out; omega)⟩
          have hbw := hb2.trans (hb.mono hb2s)
          have d0 := (hbw.cell (p := ⟨b0, o0 + k * 2, none⟩) hB0).trans (hc0 k x hx).1
          have d1 := (hbw.cell (p := ⟨b0, o0 + k * 2 + 1, none⟩) hB0).trans (hc0 k x hx).2
          have HX : Hid (revL (t.take (k + 1)) = revL (t.take k) ++ [(x.2, x.1)]) := Lib.hid (by rw [take_next hx, rev_snoc])
          have hrl : (revL (t.take k)).length ≤ 1000 := by rw [rev_len, List.length_take]; omega
          obtain ⟨O, hO⟩ : ∃ O, revL (t.take k) = O := ⟨_, rfl⟩
          rw [hO] at hown HX hrl
          clear hc0 hx hO
          obtain ⟨A4, c4, h4⟩ := (SArr.of_own rv_len hown).form
          obtain ⟨M, hM⟩ : ∃ M, O.length = M := ⟨_, rfl⟩
          have HM := Lib.hid hM
          rw [hM] at h4 hrl
          subst h4
          clear hM
          go_wp2
          have hown' : (wr.alloc (.cells (rv (x.2, x.1)).toArray 34)).drew.ownsRow w2.heap.size 34 2 (.slice A4 M c4) O.length (O.flatMap rv) := (own_keep_below hown ((Below.refl wr.heap.size wr).alloc (Nat.le_refl _) (.cells (rv (x.2, x.1)).toArray 34)) : (wr.alloc (.cells (rv (x.2, x.1)).toArray 34)).ownsRow _ _ _ _ _ _)
          have hb' : Below w2.heap.size w2 (wr.alloc (.cells (rv (x.2, x.1)).toArray 34)).drew := (hb.alloc hbs _).drew
          have hc' := cells_made (cs := rv (x.2, x.1)) wr 34
          have hbs' := hb'.size
          have hol : O.length ≤ 1000000000000 - 1 := by rw [HM.out]; omega
          go_region_law (refine step_struct (val := rv) 22 34 (.agg #[.string ⟨#[]⟩, .string ⟨#[]⟩]) 32 Tryd.underlying22 info_rule7 rfl (by decide) (by decide) rv_len rv_one _ rfl (.tmp 23) (.tmp 35) rfl w2.heap.size (.slice A4 M c4) O rfl hown' (x.2, x.1) ⟨wr.heap.size, 0, none⟩ rfl hc' hol hbs' ?_; intro r3 w6 hown6 hb6)
          all_goals
            go_wp2
            go_roundw
            case rel => exact ⟨k + 1, by omega, by go_num, (by rw [HX.out]; exact hown6), hb'.trans hb6⟩
            case measure => simp [intOf]; omega
        · obtain rfl : k = n := by omega
          rw [List.take_of_length_le (by rw [HL.out]; omega)] at hown
          have hA := SArr.of_own rv_len hown
          obtain ⟨A2, c2, h2⟩ := hA.form
          rw [rev_len, HL.out] at h2
          subst h2
          have HT2 := Lib.hid (⟨hA, hn, rev_short HT.out.short⟩ : Table _ A2 k c2 (revL t))
          have HC := Lib.hid (HRu.out A2 k c2 _ HT2.out)
          clear hA hown
          go_wp2_with fail
          refine HC.out.mono ?_
          rintro e w3 ⟨rfl, k3⟩
          go_wp2
          go_ret
          rw [HR.out]
          exact ⟨rfl, below_next hb2 (below_next hb k3)⟩

/-! The tables. -/
theorem SArr.made {t : List RuleL} {n : Nat} {T : TypeId} (w : World) (hn : t.length = n) (cs : Array Value) (hcs : cs = (t.flatMap rv).toArray) : SArr 2 rv (w.alloc (.cells cs T)) (w.alloc (.cells cs T)).heap.size (.slice (some ⟨w.heap.size, 0, none⟩) n n) t := by
  subst hcs
  have hB := Box.made w T (t.flatMap rv).toArray
  refine (SArr.of_box hB hn (Nat.le_refl _) fun i u hu j x hx => ?_).more hB.lt
  have := flat_at rv_len t i u j x hu hx
  simpa using this

end Go.Proofs.YtomkipddbmnipaaDoor

namespace Go.Proofs.YtomkipddbmnipaaDoor
open Go.RowKit

def tabCells (t : List RuleL) : Array Value := (t.flatMap rv).toArray

set_option maxRecDepth 100000 in
set_option maxHeartbeats 3200000 in
theorem refGreek_any (w : World) :
    Calls Tryd.prog 28 #[] w fun e w' => e = .returned (.slice (some ⟨w.heap.size, 0, none⟩) 28 28) ∧ w' = w.alloc (.cells (tabCells greekT) 34) := by
  go_enter Tryd.func28, Tryd.ntmps28
  go_wp2
  go_ret
  refine ⟨rfl, ?_⟩
  congr 2

set_option maxRecDepth 100000 in
set_option maxHeartbeats 6400000 in
theorem refCyrillic_any (w : World) :
    Calls Tryd.prog 27 #[] w fun e w' => e = .returned (.slice (some ⟨w.heap.size, 0, none⟩) 64 64) ∧ w' = w.alloc (.cells (tabCells cyrT) 34) := by
  obtain ⟨i0, hi, hz0, hz1, hz2⟩ := info_parts info_rule7
  go_enter Tryd.func27, Tryd.ntmps27
  go_wp2_with (refine wpList_buildSlice rfl 22 34 64 _ rfl (tabCells cyrT) i0 (.agg #[.string ⟨#[]⟩, .string ⟨#[]⟩]) Tryd.underlying22 hi hz0 (by rw [hz1]; decide) (by rw [hz1]; decide) (by rw [hz1]; kernel_rfl) ?_)
  go_ret
  exact ⟨rfl, rfl⟩

end Go.Proofs.YtomkipddbmnipaaDoor

namespace Go.Proofs.YtomkipddbmnipaaDoor

end Go.Proofs.YtomkipddbmnipaaDoor
