/-
  The program's Phrase: its set of words, its closure, the rows.
  What the laws of token ask of the program's own functions, in one word; the examples of the document.
  The bodies of TokenWords, TokenAlike.
  The bodies of TokenZone, TokenJoined.
  The body of TokenGaps.
-/
import Derived.Test.YtbnchnbblchmnaaGreatDoorPkBB
import Derived.RangeFuncBox
import Derived.Test.YtbnchnbblchmnaaGreatDoorPkAY
import Derived.Test.YtbnchnbblchmnaaGreatDoorPkAZ
import Derived.Deep.RegionHeld3
namespace Go.Proofs.YtbnchnbblchmnaaGreatDoor
open Go.RowKit Go.Maps
open Go.Sort hiding Below

/-- Which words have been seen. -/
def InB (x : WordI) : Prop := x.1.length ≤ maxLen ∧ -9223372036854775808 ≤ x.2 ∧ x.2 ≤ 9223372036854775807
def SeenW (D : DataW Unit) (l : List WordI) : Prop := IsMap D ∧ ∀ x, InB x → D.atKey (keyW x) (.lit (.bool false)) = .lit (.bool (decide (x ∈ l)))
theorem seenW_nil : SeenW (.map []) [] := ⟨isMap_empty, fun x _ => by rw [decide_eq_false (by simp)]; rfl⟩
theorem seenW_next {D : DataW Unit} {l : List WordI} (h : SeenW D l) (x : WordI) (hx : InB x) : SeenW (D.put (keyW x) (.lit (.bool true))) (l ++ [x]) := by
  refine ⟨h.1.put _ _, fun y hy => ?_⟩
  by_cases hp : x = y
  · subst hp
    rw [atKey_put_same (k := keyW x) h.1 trivial, decide_eq_true (by simp)]
  · rw [atKey_put_other (fun e => hp (keyW_inj hx hy e.symm)), h.2 y hy]
    have : (y ∈ l ++ [x]) ↔ y ∈ l := by
      rw [List.mem_append, List.mem_singleton]
      exact ⟨fun h => h.elim id (fun e => absurd e.symm hp), .inl⟩
    rw [decide_eq_decide.2 this]
theorem plain_bool_invW {P : Program} {e : TypeId} (he : P.underlying e = some .bool) {v : Value} {b : Bool} {ps : List MemPlace} (h : plainElem (H := Unit) P e v = some (.lit (.bool b), ps)) : v = .bool b := by
  unfold plainElem at h
  rw [he] at h
  cases v <;> simp at h
  rw [h.1]
theorem seenW_look {D : DataW Unit} {l : List WordI} (h : SeenW D l) {b n : Nat} {W : World} (hown : W.ownsMap Tryz.prog 32 (plainElem Tryz.prog 4) b n D) (x : WordI) (hx : InB x) :
    (Instr.lookup 56 (.map (some b)) (.agg #[.string (str x.1), .int .i64 x.2]) false).run Tryz.prog W = .ok (.bool (decide (x ∈ l))) W := by
  obtain ⟨v, ps, hrun, hv⟩ := hown.lookup word_keyed Tryz.underlying56 (Tryz.zeroValue4 W) (zd := .lit (.bool false)) (zp := []) (plainElem_bool Tryz.underlying4 false) (keyOf_word x hx.1 hx.2.1 hx.2.2)
  rw [h.2 x hx] at hv
  rw [hrun, plain_bool_invW Tryz.underlying4 hv]

set_option maxRecDepth 20000 in
set_option maxHeartbeats 3200000 in
theorem breaks_any (l : List WordI) (p : Int) (hp1 : -9223372036854775808 ≤ p) (hp2 : p ≤ 9223372036854775807) (A : Option Addr) (n c Bw Bm b B : Nat) (ws : List (List UInt8)) (hn : n ≤ 1000000) (hlen : ∀ x ∈ ws, x.length ≤ maxLen) (W : World)
    (hwc : W.cell? ⟨Bw, 0, none⟩ = some (.slice A n c)) (hws : Arr sv W B (.slice A n c) ws) (hm : W.cell? ⟨Bm, 0, none⟩ = some (.map (some b)))
    (hlook : ∀ x, InB x → (Instr.lookup 56 (.map (some b)) (.agg #[.string (str x.1), .int .i64 x.2]) false).run Tryz.prog W = .ok (.bool (decide (x ∈ l))) W) :
    Calls Tryz.prog 30 #[.int .i64 p, .pointer (some ⟨Bw, 0, none⟩), .pointer (some ⟨Bm, 0, none⟩)] W fun e w' => e = .returned (.bool (!behindB l p 0 ws)) ∧ w' = W := by
  have HL := Lib.hid hws.len
  have HA := Lib.hid hws
  have HLen := Lib.hid hlen
  have HLook := Lib.hid hlook
  obtain ⟨R, hR⟩ : ∃ R, behindB l p 0 ws = R := ⟨_, rfl⟩
  rw [hR]
  have HR := Lib.hid hR
  clear hws hlen hlook hR
  go_enter Tryz.func30, Tryz.ntmps30
  go_wp2
  go_loopw [9] (fun s9 wr => ∃ k : Nat, s9 = .int .i64 (k : Int) ∧ k ≤ n ∧ Hid (R = behindB l p k (ws.drop k)) ∧ wr = W) (fun s9 _ => n - (intOf s9).toNat)
  case atStart => exact ⟨0, rfl, Nat.zero_le _, Lib.hid (by rw [List.drop_zero]; exact HR.out.symm), rfl⟩
  case round =>
    obtain ⟨k, rfl, hk, hB, rfl⟩ := hrel
    have hk0 : (0 : Int) ≤ (k : Int) := by omega
    by_cases hkn : k < n
    · have hkz : (k : Int) < (n : Int) := by omega
      obtain ⟨x, hx⟩ : ∃ x, ws[k]? = some x := ⟨_, List.getElem?_eq_getElem (by have := HL.out; omega)⟩
      obtain ⟨b0, o0, rfl, hB0, hc0⟩ := HA.out.some_ (by omega)
      have d0 : wr.cell? ⟨b0, o0 + k, none⟩ = some (.string (str x)) := hc0 k x hx
      have hxl := HLen.out x (List.mem_of_getElem? hx)
      have hBk := hB.out
      rw [List.drop_eq_getElem_cons (List.getElem?_eq_some_iff.1 hx).1, (List.getElem?_eq_some_iff.1 hx).2, behindB] at hBk
      by_cases ho : p + (k : Int) ≤ 9223372036854775807
      · have hw : wrap64 (p + (k : Int)) = p + (k : Int) := by unfold wrap64; omega
        have hnl : ¬ (p + (k : Int) < p) := by omega
        have hlk := HLook.out (x, p + (k : Int)) ⟨hxl, by show -9223372036854775808 ≤ p + (k : Int); omega, ho⟩
        rw [decide_eq_true ho, Bool.true_and] at hBk
        by_cases hin : (x, p + (k : Int)) ∈ l
        · rw [decide_eq_true hin] at hlk hBk
          have HB : Hid (R = behindB l p (k + 1) (ws.drop (k + 1))) := Lib.hid (by rw [hBk, Bool.true_and])
          clear hx hc0 hBk hin ho
          go_wp2
          go_roundw
          case rel => exact ⟨k + 1, by simp, by omega, HB, trivial⟩
          case measure => simp [intOf]; omega
        · rw [decide_eq_false hin] at hlk hBk
          have HB : Hid (R = false) := Lib.hid (by rw [hBk, Bool.false_and])
          clear hx hc0 hBk hin ho
          go_wp2
          go_ret
          rw [HB.out]
          exact ⟨rfl, rfl⟩
      · obtain ⟨q, hq⟩ : ∃ q, wrap64 (p + (k : Int)) = q := ⟨_, rfl⟩
        have hql : q < p := by rw [← hq]; unfold wrap64; omega
        rw [decide_eq_false ho, Bool.false_and, Bool.false_and] at hBk
        have HB : Hid (R = false) := Lib.hid hBk
        clear hx hc0 hBk ho
        go_wp2
        go_ret
        rw [HB.out]
        exact ⟨rfl, rfl⟩
    · obtain rfl : k = n := by omega
      have HB : Hid (R = true) := Lib.hid (by
        have := hB.out
        rw [List.drop_of_length_le (by have := HL.out; omega)] at this
        exact this)
      go_wp2
      go_ret
      rw [HB.out]
      exact ⟨rfl, rfl⟩

/-! Integers of 64 bits. -/
abbrev I64 := { x : Int // -9223372036854775808 ≤ x ∧ x ≤ 9223372036854775807 }
instance : Inhabited I64 := ⟨⟨0, by decide⟩⟩
def ivS (x : I64) : Value := .int .i64 x.1
def toS (P : List Int) (h : ∀ x ∈ P, -9223372036854775808 ≤ x ∧ x ≤ 9223372036854775807) : List I64 := P.pmap Subtype.mk h
theorem toS_val (P : List Int) (h : ∀ x ∈ P, -9223372036854775808 ≤ x ∧ x ≤ 9223372036854775807) : (toS P h).map Subtype.val = P := by
  unfold toS
  rw [List.map_pmap]
  simp
theorem toS_len (P : List Int) (h : ∀ x ∈ P, -9223372036854775808 ≤ x ∧ x ≤ 9223372036854775807) : (toS P h).length = P.length := by unfold toS; simp
theorem filter_val (q : Int → Bool) : ∀ L : List I64, (L.filter fun x => q x.1).map Subtype.val = (L.map Subtype.val).filter q
  | [] => rfl
  | x :: L => by
    have ih := filter_val q L
    rw [List.map_cons, List.filter_cons, List.filter_cons]
    by_cases h : q x.1 = true
    · rw [if_pos h, if_pos h, List.map_cons, ih]
    · rw [if_neg h, if_neg h, ih]
theorem holdsS {w : World} {g : Nat} {P : List Int} {L : List I64} (hL : L.map Subtype.val = P) : Holds ivS w g 0 L.toArray ↔ Holds (Value.int .i64) w g 0 P.toArray := by
  subst hL
  have key : ∀ j, j < L.length → (Value.int .i64 (L.map Subtype.val).toArray[j]!) = ivS L.toArray[j]! := fun j hj => by
    rw [getElem!_pos (L.map Subtype.val).toArray j (by simpa using hj), getElem!_pos L.toArray j hj]
    simp [ivS]
  constructor
  · intro h j hj
    have hj' : j < L.length := by simpa using hj
    have := h j hj'
    rw [← key j hj'] at this
    exact this
  · intro h j hj
    have hj' : j < L.length := hj
    have := h j (by simpa using hj')
    rw [key j hj'] at this
    exact this

set_option maxRecDepth 20000 in
set_option maxHeartbeats 1600000 in
theorem indexNone_any (g : Nat) (lb : Array Value) (w : World) : Calls Tryz.prog 61 #[.slice none 0 0, .func (.func g) #[] lb] w fun e w' => e = .returned (.int .i64 (-1)) ∧ w' = w := by
  go_enter Tryz.func61, Tryz.ntmps61
  go_wp2
  go_loopw [8] (fun s8 wr => s8 = .int .i64 0 ∧ wr = w) (fun _ _ => 0)
  case atStart => exact ⟨rfl, rfl⟩
  case round =>
    obtain ⟨rfl, rfl⟩ := hrel
    have h0 : ¬ ((0 : Int) < 0) := by omega
    go_wp2
    go_ret
    exact ⟨rfl, rfl⟩
set_option maxRecDepth 20000 in
set_option maxHeartbeats 1600000 in
theorem deleteNone_any (g : Nat) (lb : Array Value) (w : World) : Calls Tryz.prog 31 #[.slice none 0 0, .func (.func g) #[] lb] w fun e w' => e = .returned (.slice none 0 0) ∧ w' = w := by
  have HI := Lib.hid (indexNone_any g lb w)
  go_enter Tryz.func31, Tryz.ntmps31
  go_wp2_with fail
  refine HI.out.mono ?_
  rintro e w1 ⟨rfl, rfl⟩
  go_wp2
  go_ret
  exact ⟨rfl, rfl⟩

theorem behind_first (l : List WordI) (p : Int) (t : List UInt8) (ws : List (List UInt8)) (hp : p ≤ 9223372036854775807) (hin : (t, p) ∈ l) : behindB l p 0 (t :: ws) = behindB l p 1 ws := by
  rw [behindB]
  rw [decide_eq_true (show p + ((0 : Nat) : Int) ≤ 9223372036854775807 by omega), decide_eq_true (show (t, p + ((0 : Nat) : Int)) ∈ l by simpa using hin)]
  rfl
theorem cell_blockP {w : World} {a : Addr} {v : Value} (h : w.cell? a = some v) : ∃ o, w.heap[a.block]? = some o ∧ True := by
  unfold World.cell? at h
  cases ho : w.heap[a.block]? with
  | none => simp [ho] at h
  | some o => exact ⟨o, rfl, trivial⟩
theorem delete_any (l : List WordI) (hl : ∀ x ∈ l, InB x) (A : Option Addr) (n c Bw Bm b g cap : Nat) (t : List UInt8) (ws : List (List UInt8)) (hn : n ≤ 1000000) (hlen : ∀ x ∈ t :: ws, x.length ≤ maxLen) (w0 wr w : World)
    (hwc : wr.cell? ⟨Bw, 0, none⟩ = some (.slice A n c)) (hws : Arr sv wr wr.heap.size (.slice A n c) (t :: ws)) (hm : wr.cell? ⟨Bm, 0, none⟩ = some (.map (some b))) {D : DataW Unit} {N : Nat} (hseen : SeenW D l) (hown : wr.ownsMap Tryz.prog 32 (plainElem Tryz.prog 4) b N D)
    (hb : Below wr.heap.size wr w) (hH : Holds (Value.int .i64) w g 0 (findI l t).toArray) (hg : g < w.heap.size) (hgr : wr.heap.size ≤ g) (hc : (findI l t).length ≤ cap) (hP : (findI l t).length ≤ 1000000) (h0 : Below w0.heap.size w0 wr) :
    Calls Tryz.prog 31 #[.slice (some ⟨g, 0, none⟩) (findI l t).length cap, .func (.func 30) #[] #[.pointer (some ⟨Bw, 0, none⟩), .pointer (some ⟨Bm, 0, none⟩)]] w fun e w' => ∃ n, e = .returned (.slice (some ⟨g, 0, none⟩) n cap) ∧ Arr iv w' w'.heap.size (.slice (some ⟨g, 0, none⟩) n cap) (phraseI l (t :: ws)) ∧ Below w0.heap.size w0 w' := by
  have hBw : Bw < wr.heap.size := by obtain ⟨o, h1, _⟩ := cell_blockP hwc; exact (Array.getElem?_eq_some_iff.1 h1).1
  have hBm : Bm < wr.heap.size := by obtain ⟨o, h1, _⟩ := cell_blockP hm; exact (Array.getElem?_eq_some_iff.1 h1).1
  have key : ∀ (W : World) (x : I64), Below wr.heap.size wr W → FnGives Tryz.prog 30 #[.pointer (some ⟨Bw, 0, none⟩), .pointer (some ⟨Bm, 0, none⟩)] #[ivS x] (.bool (!behindB l x.1 0 (t :: ws))) W := by
    intro W x hW
    refine (breaks_any l x.1 x.2.1 x.2.2 A n c Bw Bm b wr.heap.size (t :: ws) hn hlen W ((hW.cell (p := ⟨Bw, 0, none⟩) hBw).trans hwc) (hws.below hW) ((hW.cell (p := ⟨Bm, 0, none⟩) hBm).trans hm) (fun y hy => seenW_look hseen (hown.kept (grown_of_below none hW) (by simp)) y hy)).mono ?_
    rintro e w' ⟨rfl, rfl⟩
    exact ⟨rfl, 0, rfl⟩
  have hbd : ∀ x ∈ findI l t, -9223372036854775808 ≤ x ∧ x ≤ 9223372036854775807 := fun x hx => (hl _ (find_mem.1 hx)).2
  have hval := toS_val (findI l t) hbd
  have hlS := toS_len (findI l t) hbd
  generalize toS (findI l t) hbd = L at hval hlS
  have h6 := AnyE.slices_DeleteFunc deleteLays ivS (fun _ => rfl) (fun x : I64 => !behindB l x.1 0 (t :: ws)) 30 #[.pointer (some ⟨Bw, 0, none⟩), .pointer (some ⟨Bm, 0, none⟩)] (enters_of Tryz.func30 (by kernel_rfl) rfl) default Tryz.zeroValue3 g 0 cap L.toArray w
    (fun W x hW => key W x (hb.trans (hW.mono hb.size))) (fun q os dk x _ => key _ x (row_grow (row_below hb hgr) (by rw [size_putRow]; exact hb.size))) ((holdsS hval).2 hH) (by show L.length ≤ _; omega) (by show L.length ≤ cap; omega)
  have h7 : Calls Tryz.prog 31 #[.slice (some ⟨g, 0, none⟩) L.toArray.size cap, .func (.func 30) #[] #[.pointer (some ⟨Bw, 0, none⟩), .pointer (some ⟨Bm, 0, none⟩)]] w _ := h6
  rw [show L.toArray.size = L.length from rfl, hlS] at h7
  refine h7.mono ?_
  rintro e w' ⟨rfl, q, hw'⟩
  have hM : (L.toArray.toList.filter fun x => !(!behindB l x.1 0 (t :: ws))).map Subtype.val = phraseI l (t :: ws) := by
    show ((L.filter fun x => !(!behindB l x.1 0 (t :: ws)))).map Subtype.val = (findI l t).filter fun p => behindB l p 1 ws
    rw [filter_val (fun p => !(!behindB l p 0 (t :: ws))), hval]
    apply List.filter_congr
    intro p hp
    rw [Bool.not_not, behind_first l p t ws (hbd p hp).2 (find_mem.1 hp)]
  have hle : (L.toArray.toList.filter fun x => !(!behindB l x.1 0 (t :: ws))).length ≤ L.length := List.length_filter_le _ _
  generalize (L.toArray.toList.filter fun x => !(!behindB l x.1 0 (t :: ws))) = M at hM hle hw' ⊢
  have hMl : M.length = (phraseI l (t :: ws)).length := by rw [← hM, List.length_map]
  have hH2 : Holds ivS w' g 0 M.toArray := by
    rw [hw']
    exact holds_pre (holds_putRow _ _ _ _ _ _ (holds_ahead _ w q g 0 _ ((holdsS hval).2 hH)) (by simp; omega))
  have hsz : w'.heap.size = w.heap.size := by rw [hw', size_putRow]; rfl
  have hbw : Below w0.heap.size w0 w' := by rw [hw']; exact row_below (h0.trans (hb.mono h0.size)) (Nat.le_trans h0.size hgr)
  refine ⟨_, rfl, ?_, hbw⟩
  rw [hMl]
  exact holds_arr ((holdsS hM).1 hH2) (by rw [hsz]; exact hg) (by omega)

theorem cell_keepW {w w' : World} {row : Option Nat} {a : Addr} (h : w.grownBy w' row) (hl : a.block < w.heap.size) (hr : some a.block ≠ row) : w'.cell? a = w.cell? a := by
  unfold World.cell?
  rw [h.block a.block hl hr]
theorem cell_keepA {w : World} {a : Addr} (o : Obj) (hl : a.block < w.heap.size) : (w.alloc o).cell? a = w.cell? a := by
  unfold World.cell?
  rw [Below.heap_alloc w o _ hl]
theorem putA_len (n : Int) : ∀ l : List Int, (putA n l).length ≤ l.length + 1
  | [] => by simp [putA]
  | x :: l => by
    have ih := putA_len n l
    rw [putA]
    split
    · rw [List.length_cons, List.length_cons]; omega
    · split
      · omega
      · rw [List.length_cons]; omega
theorem setA_len (l : List Int) : (setA l).length ≤ l.length := by
  refine list_snoc (fun l => (setA l).length ≤ l.length) (Nat.le_refl _) (fun l x ih => ?_) l
  rw [set_snoc, List.length_append, List.length_singleton]
  have := putA_len x (setA l)
  omega
set_option maxRecDepth 20000 in
set_option maxHeartbeats 3200000 in
theorem prPhrase_any (A A' : Option Addr) (n c n' c' : Nat) (l : List WordI) (ws : List (List UInt8)) (w : World) (hA : SArr 2 wv w w.heap.size (.slice A n c) l) (hW : Arr sv w w.heap.size (.slice A' n' c') ws) (hn : n ≤ 1000000) (hn' : n' ≤ 1000000) (hl : ∀ x ∈ l, InB x) (hwb : ∀ x ∈ ws, x.length ≤ maxLen) :
    Calls Tryz.prog 11 #[.slice A n c, .slice A' n' c'] w fun e w' => ∃ A n c, e = .returned (.slice A n c) ∧ Arr iv w' w'.heap.size (.slice A n c) (phraseI l ws) ∧ Below w.heap.size w w' := by
  have hwl : ws.length = n' := hW.len
  by_cases h0 : n' = 0
  · subst h0
    obtain rfl := List.length_eq_zero_iff.1 hwl
    have h1 : ((0 : Nat) : Int) = 0 := rfl
    go_enter Tryz.func11, Tryz.ntmps11
    go_wp2
    go_ret
    exact ⟨_, _, _, rfl, Arr.nil_ _ _, below_new (Below.refl _ _) _⟩
  cases ws with
  | nil => exact absurd hwl.symm h0
  | cons t ws =>
    have hmm := @run_makeMap Tryz.prog
    have hz : ¬ ((n' : Int) = 0) := by omega
    have hz2 : ((n' : Int) == 0) = false := by simpa using hz
    have hlen : l.length = n := hA.len
    have hzl : ∀ x ∈ t :: ws, x.length ≤ maxLen := hwb
    obtain ⟨b1, o1, hA1, hb1, hc1⟩ := hW.some_ (by omega)
    subst hA1
    have ht0 := hc1 0 t rfl
    rw [Nat.add_zero] at ht0
    have HW := Lib.hid hW
    have HA := Lib.hid hA
    have HN := Lib.hid hlen
    have HL := Lib.hid hl
    have HZ := Lib.hid hzl
    have HT : Hid (w.cell? ⟨b1, o1, none⟩ = some (.string (str t))) := Lib.hid ht0
    clear hlen hwl hW hA hc1 hl hzl hwb ht0
    go_enter Tryz.func11, Tryz.ntmps11
    go_wp2
    go_loopw [15] (fun s15 wr => ∃ (k : Nat) (D : DataW Unit), s15 = .int .i64 (k : Int) ∧ k ≤ n ∧ Hid (SeenW D (l.take k)) ∧ Hid (wr.ownsMap Tryz.prog 32 (plainElem Tryz.prog 4) (w.heap.size + 1) k D) ∧ wr.cell? ⟨w.heap.size, 0, none⟩ = some (.slice (some ⟨b1, o1, none⟩) n' c') ∧ wr.cell? ⟨w.heap.size + 1 + 1, 0, none⟩ = some (.map (some (w.heap.size + 1))) ∧ w.heap.size + 3 ≤ wr.heap.size ∧ Below w.heap.size w wr) (fun s15 _ => n - (intOf s15).toNat)
    case atStart =>
      have hmp := World.ownsMap_made (w.alloc (.cells #[.slice (some ⟨b1, o1, none⟩) n' c'] 25)) Tryz.prog 32 (plainElem (H := Unit) Tryz.prog 4)
      rw [World.size_alloc] at hmp
      have q1 := ((Boxed.new w 25 (.slice (some ⟨b1, o1, none⟩) n' c')).alloc (.map #[] 0)).alloc (.cells #[.map (some (w.heap.size + 1))] 56)
      have q2 := Boxed.new ((w.alloc (.cells #[.slice (some ⟨b1, o1, none⟩) n' c'] 25)).alloc (.map #[] 0)) 56 (.map (some (w.heap.size + 1)))
      rw [World.size_alloc, World.size_alloc] at q2
      exact ⟨0, .map [], rfl, Nat.zero_le _, Lib.hid seenW_nil, Lib.hid (hmp.alloc _), q1.cell, q2.cell, by simp, below_new (below_new (below_new (Below.refl _ _) _) _) _⟩
    case round =>
      obtain ⟨k, D, rfl, hk, hD, hO, hcw, hcm, hsz, hb⟩ := hrel
      have hk0 : (0 : Int) ≤ (k : Int) := by omega
      by_cases hkn : k < n
      · have hkz : (k : Int) < (n : Int) := by omega
        obtain ⟨x, hx⟩ : ∃ x, l[k]? = some x := ⟨_, List.getElem?_eq_getElem (by have := HN.out; omega)⟩
        obtain ⟨b0, o0, rfl, hB0, hc0⟩ := words_cells HA.out (by omega)
        have d0 : wr.cell? ⟨b0, o0 + k * 2, none⟩ = some (.string (str x.1)) := (hb.cell (p := ⟨b0, o0 + k * 2, none⟩) hB0).trans (hc0 k x hx).1
        have d1 : wr.cell? ⟨b0, o0 + k * 2 + 1, none⟩ = some (.int .i64 x.2) := (hb.cell (p := ⟨b0, o0 + k * 2 + 1, none⟩) hB0).trans (hc0 k x hx).2
        have hxb := HL.out x (List.mem_of_getElem? hx)
        have hkey := keyOf_word x hxb.1 hxb.2.1 hxb.2.2
        have hbm : w.heap.size + 1 + 1 < wr.heap.size := by omega
        have HS2 : Hid (SeenW (D.put (keyW x) (.lit (.bool true))) (l.take (k + 1))) := Lib.hid (by rw [take_next hx]; exact seenW_next hD.out x hxb)
        have hO2 := hO.out.alloc (.cells #[.string (str x.1), .int .i64 x.2] 32)
        have hb1 : Below w.heap.size w (wr.alloc (.cells #[.string (str x.1), .int .i64 x.2] 32)) := hb.alloc hb.size _
        have hXB := Lib.hid hxb
        clear hx hc0 hxb
        go_wp2_with (first
          | (at_mapUpdate; refine wpList_mapUpdate_own _ rfl _ _ _ 56 rfl 32 4 word_keyed Tryz.underlying56 _ (w.heap.size + 1) k _ rfl hO2 (by unfold maxLen; omega) _ _ _ rfl rfl hkey _ [] (plainElem_bool Tryz.underlying4 true) ?_)
          | go_in)
        intro w3 hown3 hgrow3
        have hcw3 : w3.cell? ⟨w.heap.size, 0, none⟩ = some (.slice (some ⟨b1, o1, none⟩) n' c') := (cell_keepW hgrow3 (by simp; omega) (by simp)).trans ((cell_keepA _ (by show w.heap.size < _; omega)).trans hcw)
        have hcm3 : w3.cell? ⟨w.heap.size + 1 + 1, 0, none⟩ = some (.map (some (w.heap.size + 1))) := (cell_keepW hgrow3 (by simp; omega) (by simp)).trans ((cell_keepA _ (by show w.heap.size + 1 + 1 < _; omega)).trans hcm)
        have hsz3 : w.heap.size + 3 ≤ w3.heap.size := by have := hgrow3.size; simp at this; omega
        have hb3 := hb1.grown hgrow3 hb1.size (fun j hj => by cases hj; omega)
        have HO3 := Lib.hid hown3
        clear hown3 hgrow3 hO2 hkey hcw hcm
        go_wp2
        go_roundw
        case rel => exact ⟨k + 1, _, by simp, by omega, HS2, HO3, hcw3, hcm3, hsz3, hb3⟩
        case measure => simp [intOf]; omega
      · obtain rfl : k = n := by omega
        have hfull : l.take k = l := List.take_of_length_le (by have := HN.out; omega)
        rw [hfull] at hD
        have d0 : wr.cell? ⟨b1, o1, none⟩ = some (.string (str t)) := (hb.cell (p := ⟨b1, o1, none⟩) hb1).trans HT.out
        have hnz : (0 : Int) < (n' : Int) := by omega
        have HF := Lib.hid (prFind_row A k c l t wr (HA.out.up hb) hn)
        have hfl : (findI l t).length ≤ 1000000 := by
          have h1 := setA_len (posOf l t)
          have h2 := pos_len l t
          have h3 := HN.out
          show (setA (posOf l t)).length ≤ _
          omega
        clear hfull
        go_wp2_with fail
        refine HF.out.mono ?_
        rintro e w1 ⟨⟨rfl, hf⟩ | ⟨g, c2, rfl, h1, h2, h3, h4⟩, k1⟩
        · have HD := Lib.hid (deleteNone_any 30 #[.pointer (some ⟨w.heap.size, 0, none⟩), .pointer (some ⟨w.heap.size + 1 + 1, 0, none⟩)] w1)
          have HP : Hid (phraseI l (t :: ws) = []) := Lib.hid (by show (findI l t).filter (fun p => behindB l p 1 ws) = []; rw [hf]; rfl)
          clear hf
          go_wp2_with fail
          refine HD.out.mono ?_
          rintro e w2 ⟨rfl, rfl⟩
          go_wp2
          go_ret
          exact ⟨none, 0, 0, rfl, by rw [HP.out]; exact Arr.nil_ _ _, below_next hb k1⟩
        · have HD := Lib.hid (delete_any l HL.out (some ⟨b1, o1, none⟩) n' c' w.heap.size (w.heap.size + 1 + 1) (w.heap.size + 1) g c2 t ws hn' HZ.out w wr w1 hcw (HW.out.up hb) hcm hD.out hO.out k1 h1 h2 h3 h4 hfl hb)
          have H1 := Lib.hid h1
          clear h1 h4
          go_wp2_with fail
          refine HD.out.mono ?_
          rintro e w2 ⟨m, rfl, hArr, k2⟩
          have HAr := Lib.hid hArr
          clear hArr
          go_wp2
          go_ret
          exact ⟨_, _, _, rfl, HAr.out, k2⟩

end Go.Proofs.YtbnchnbblchmnaaGreatDoor

namespace Go.Proofs.YtbnchnbblchmnaaGreatDoor
open Go.RowKit

/-- What TokenWords, TokenZone, TokenJoined and TokenAlike ask of the program. -/
structure Own10 (w0 : World) : Prop where
  words : ∀ (s : List UInt8) (W : World), Below w0.heap.size w0 W → s.length ≤ 200 →
    Calls Tryz.prog 13 #[.string (str s)] W fun e w' => ∃ A n c, e = .returned (.slice A n c) ∧ SArr 2 wv w' w'.heap.size (.slice A n c) (castW (wordsP s)) ∧ Below W.heap.size W w'
  texts : ∀ (s : List UInt8) (W : World), Below w0.heap.size w0 W → s.length ≤ 200 →
    Calls Tryz.prog 20 #[.string (str s)] W fun e w' => ∃ A n c, e = .returned (.slice A n c) ∧ Arr sv w' w'.heap.size (.slice A n c) (textsB s) ∧ Below W.heap.size W w'
  zone : ∀ (A : Option Addr) (n c : Nat) (l : List (List UInt8)) (G : Nat) (W : World), Below w0.heap.size w0 W → Arr sv W W.heap.size (.slice A n c) l → n ≤ 6 → (∀ s ∈ l, s.length ≤ 30) → G ≤ 1000 →
    Calls Tryz.prog 24 #[.slice A n c, .int .i64 (G : Int)] W fun e w' => ∃ A' n' c', e = .returned (.tuple #[.slice A' n' c', .int .i64 0]) ∧ SArr 2 wv w' w'.heap.size (.slice A' n' c') (castW (zoneP G l)) ∧ Below W.heap.size W w'
  zoneBad : ∀ (A : Option Addr) (n c : Nat) (l : List (List UInt8)) (g : Int) (W : World), Below w0.heap.size w0 W → Arr sv W W.heap.size (.slice A n c) l → (g < 0 ∨ 1000 < g) →
    Calls Tryz.prog 24 #[.slice A n c, .int .i64 g] W fun e w' => ∃ A' c', e = .returned (.tuple #[.slice A' 0 c', .int .i64 2]) ∧ SArr 2 wv w' w'.heap.size (.slice A' 0 c') [] ∧ Below W.heap.size W w'
  ordered : ∀ (A : Option Addr) (n c : Nat) (l : List WordL) (W : World), Below w0.heap.size w0 W → SArr 2 wv W W.heap.size (.slice A n c) (castW l) → n ≤ 10000000 → OrdP l →
    Calls Tryz.prog 25 #[.slice A n c] W fun e w' => e = .returned (.bool true) ∧ Below W.heap.size W w'
  join : ∀ (A : Option Addr) (n c : Nat) (l : List WordI) (W : World), Below w0.heap.size w0 W → SArr 2 wv W W.heap.size (.slice A n c) l → n ≤ 10000000 → (joinI l).length ≤ 10000000 →
    Calls Tryz.prog 22 #[.slice A n c] W fun e w' => e = .returned (.string (str (joinI l))) ∧ Below W.heap.size W w'

theorem aw10a : castW (wordsP [76, 39, 195, 169, 116, 195, 169, 44, 32, 195, 160, 32, 80, 97, 114, 105, 115]) = [([108], 0), ([101, 116, 101], 1), ([97], 2), ([112, 97, 114, 105, 115], 3)] := by kernel_rfl
theorem aw10b : castW (zoneP 10 [[97, 32, 98], [99]]) = [([97], 0), ([98], 1), ([99], 12)] := by kernel_rfl
theorem aw10c : joinI [([97], 0), ([98], 1), ([99], 12)] = [97, 32, 98, 32, 99] := by kernel_rfl
theorem eql_word (a b : List UInt8) (p q : Int) (W : World) : (binOp .eql 32 (.agg #[.string (str a), .int .i64 p]) (.agg #[.string (str b), .int .i64 q])).run Tryz.prog W = .ok (.bool (decide ((a, p) = (b, q)))) W := by
  rw [run_eql_struct, eq_word]
  rfl

set_option maxRecDepth 20000 in
set_option maxHeartbeats 3200000 in
theorem awake10_any (w : World) (hS : Own10 w) : Calls Tryz.prog 6 #[] w fun e w' => e = .returned (.bool true) ∧ Below w.heap.size w w' := by
  have h1 := fun W (hW : Below w.heap.size w W) => hS.words [76, 39, 195, 169, 116, 195, 169, 44, 32, 195, 160, 32, 80, 97, 114, 105, 115] W hW (by decide)
  have h2 := fun A W (hW : Below w.heap.size w W) (hA : Arr sv W W.heap.size (.slice A 2 2) [[97, 32, 98], [99]]) => hS.zone A 2 2 [[97, 32, 98], [99]] 10 W hW hA (by decide) (by decide) (by decide)
  rw [aw10a] at h1
  rw [aw10b] at h2
  have h3 := fun A c W (hW : Below w.heap.size w W) (hA : SArr 2 wv W W.heap.size (.slice A 3 c) [([97], 0), ([98], 1), ([99], 12)]) => hS.ordered A 3 c (zoneP 10 [[97, 32, 98], [99]]) W hW (by rw [aw10b]; exact hA) (by decide) (zone_ord _ _)
  have h4 := fun A c W (hW : Below w.heap.size w W) (hA : SArr 2 wv W W.heap.size (.slice A 3 c) [([97], 0), ([98], 1), ([99], 12)]) => hS.join A 3 c _ W hW hA (by decide) (by rw [aw10c]; decide)
  rw [aw10c] at h4
  have H1 := Lib.hid h1
  have H2 := Lib.hid h2
  have H3 := Lib.hid h3
  have H4 := Lib.hid h4
  have q4 : ((str [97, 32, 98, 32, 99]).toList == [97, 32, 98, 32, 99]) = true := by rw [str_toList]; rfl
  have hq1 : ∀ W, (binOp .eql 32 (.agg #[.string (str [101, 116, 101]), .int .i64 1]) (.agg #[.string ⟨#[101, 116, 101]⟩, .int .i64 1])).run Tryz.prog W = .ok (.bool true) W := fun W => eql_word [101, 116, 101] [101, 116, 101] 1 1 W
  have hq2 : ∀ W, (binOp .eql 32 (.agg #[.string (str [99]), .int .i64 12]) (.agg #[.string ⟨#[99]⟩, .int .i64 12])).run Tryz.prog W = .ok (.bool true) W := fun W => eql_word [99] [99] 12 12 W
  clear h1 h2 h3 h4
  go_enter Tryz.func6, Tryz.ntmps6
  go_wp2_with fail
  refine (H1.out _ (Below.refl _ _)).mono ?_
  rintro e w1 ⟨A1, n1, c1, rfl, hA1, k1⟩
  obtain rfl : n1 = 4 := hA1.len.symm
  go_wp2_with fail
  have b1 := k1.alloc k1.size (.cells #[Value.string { data := #[97, 32, 98] }, Value.string { data := #[99] }] 9)
  refine (H2.out _ _ b1 (arr_made w1 9 [[97, 32, 98], [99]] 2 _ rfl rfl)).mono ?_
  rintro e w2 ⟨A2, n2, c2, rfl, hA2, k2⟩
  obtain rfl : n2 = 3 := hA2.len.symm
  have b2 := below_next b1 k2
  obtain ⟨bl, ol, rfl, hBl, hcl⟩ := words_cells hA1 (by decide)
  obtain ⟨bz, oz, rfl, hBz, hcz⟩ := words_cells hA2 (by decide)
  have k12 : Below w1.heap.size w1 w2 := below_next ((Below.refl _ _).alloc (Nat.le_refl _) _) k2
  have d1 : w2.cell? ⟨bl, ol + 2, none⟩ = some (.string (str [101, 116, 101])) := (k12.cell (p := ⟨bl, ol + 2, none⟩) hBl).trans (hcl 1 _ rfl).1
  have d2 : w2.cell? ⟨bl, ol + 2 + 1, none⟩ = some (.int .i64 1) := (k12.cell (p := ⟨bl, ol + 2 + 1, none⟩) hBl).trans (hcl 1 _ rfl).2
  have d3 : w2.cell? ⟨bz, oz + 4, none⟩ = some (.string (str [99])) := (hcz 2 _ rfl).1
  have d4 : w2.cell? ⟨bz, oz + 4 + 1, none⟩ = some (.int .i64 12) := (hcz 2 _ rfl).2
  have HA2 := Lib.hid hA2
  clear hcl hcz hA1 hA2
  go_wp2_with fail
  refine (H3.out _ _ _ b2 HA2.out).mono ?_
  rintro e w3 ⟨rfl, k3⟩
  have b3 := below_next b2 k3
  go_wp2_with fail
  refine (H4.out _ _ _ b3 (HA2.out.up k3)).mono ?_
  rintro e w4 ⟨rfl, k4⟩
  have b4 := below_next b3 k4
  go_wp2
  go_ret
  exact ⟨rfl, b4⟩

end Go.Proofs.YtbnchnbblchmnaaGreatDoor

namespace Go.Proofs.YtbnchnbblchmnaaGreatDoor
open Go.RowKit

theorem cast_eq {a b : List WordL} : castW a = castW b ↔ a = b := by
  unfold castW
  constructor
  · intro h
    refine List.map_inj_right (fun x y e => ?_) |>.1 h
    obtain ⟨x1, x2⟩ := x
    obtain ⟨y1, y2⟩ := y
    injection e with e1 e2
    exact Prod.ext e1 (Int.ofNat.inj e2)
  · intro h; rw [h]
theorem idx_fst (l : List (List UInt8)) (k : Nat) : (l.zipIdx k).map Prod.fst = l := by simp
theorem words_eq {s t : List UInt8} : castW (wordsP s) = castW (wordsP t) ↔ textsB s = textsB t := by
  rw [cast_eq]
  unfold wordsP
  constructor
  · intro h
    rw [← idx_fst (textsB s) 0, h, idx_fst]
  · intro h; rw [h]
theorem words_alike (s t : List UInt8) : decide (castW (wordsP s) = castW (wordsP t)) = decide (nSearch s = nSearch t) := by
  rw [decide_eq_decide, words_eq, texts_alike]
theorem joinI_words (s : List UInt8) : joinI (castW (wordsP s)) = nSearch s := by
  rw [search_join]
  unfold joinI castW wordsP
  rw [List.map_map]
  congr 1
  exact idx_fst (textsB s) 0
theorem words_len (s : List UInt8) : (castW (wordsP s)).length = (textsB s).length := by
  rw [cast_len]
  unfold wordsP
  rw [List.length_zipIdx]

end Go.Proofs.YtbnchnbblchmnaaGreatDoor

namespace Go.Proofs.YtbnchnbblchmnaaGreatDoor
open Go.RowKit

theorem decEnd_tuple {W w' : World} {r : Option (List Nat)} {e : Ending} (h : DecEnd W r e w') : ∃ u, e = .returned (.tuple #[u, .bool r.isSome]) := by
  cases r with
  | none => exact ⟨_, h⟩
  | some l => obtain ⟨v, h1, _⟩ := h; exact ⟨v, h1⟩
theorem joinedB_len (l : List (List UInt8)) : (∀ s ∈ l, s.length ≤ 30) → (joinedB l).length ≤ l.length * 31 := by
  refine list_snoc (fun l => (∀ s ∈ l, s.length ≤ 30) → (joinedB l).length ≤ l.length * 31) (fun _ => Nat.zero_le _) (fun l s ih h => ?_) l
  have h1 := ih fun t ht => h t (List.mem_append_left _ ht)
  have h2 := h s (List.mem_append_right _ (List.mem_singleton.2 rfl))
  rw [joined_snoc, List.length_append, List.length_append, List.length_cons, List.length_singleton]
  omega

end Go.Proofs.YtbnchnbblchmnaaGreatDoor

namespace Go.Proofs.YtbnchnbblchmnaaGreatDoor
open Go.RowKit

/-- What TokenGaps asks besides. -/
structure Own10P (w0 : World) : Prop where
  phrase : ∀ (A A' : Option Addr) (n c n' c' : Nat) (l : List WordI) (ws : List (List UInt8)) (W : World), Below w0.heap.size w0 W → SArr 2 wv W W.heap.size (.slice A n c) l → Arr sv W W.heap.size (.slice A' n' c') ws → n ≤ 10000 → n' ≤ 10000 → (∀ x ∈ l, x.1.length ≤ 10000 ∧ -9223372036854775808 ≤ x.2 ∧ x.2 ≤ 9223372036854775807) → (∀ x ∈ ws, x.length ≤ 9223372036854775807) →
    Calls Tryz.prog 11 #[.slice A n c, .slice A' n' c'] W fun e w' => ∃ A n c, e = .returned (.slice A n c) ∧ Arr iv w' w'.heap.size (.slice A n c) (phraseI l ws) ∧ Below W.heap.size W w'
theorem Own10.up {a b : World} (h : Own10 a) (k : Below a.heap.size a b) : Own10 b where
  words := fun s W hW => h.words s W (below_next k hW)
  texts := fun s W hW => h.texts s W (below_next k hW)
  zone := fun A n c l G W hW => h.zone A n c l G W (below_next k hW)
  zoneBad := fun A n c l G W hW => h.zoneBad A n c l G W (below_next k hW)
  ordered := fun A n c l W hW => h.ordered A n c l W (below_next k hW)
  join := fun A n c l W hW => h.join A n c l W (below_next k hW)
theorem Own10P.up {a b : World} (h : Own10P a) (k : Below a.heap.size a b) : Own10P b where
  phrase := fun A A' n c n' c' l ws W hW => h.phrase A A' n c n' c' l ws W (below_next k hW)

theorem zone_from (gap : Nat) (l : List (List UInt8)) : ∀ y ∈ zoneP gap l, ∃ s ∈ l, y.1 ∈ textsB s := by
  refine list_snoc (fun l => ∀ y ∈ zoneP gap l, ∃ s ∈ l, y.1 ∈ textsB s) (fun y hy => by cases hy) (fun l s ih y hy => ?_) l
  rw [zone_snoc] at hy
  rcases List.mem_append.1 hy with h | h
  · obtain ⟨t, ht, h3⟩ := ih y h
    exact ⟨t, List.mem_append_left _ ht, h3⟩
  · exact ⟨s, List.mem_append_right _ (List.mem_singleton.2 rfl), (idx_mem h).2.2.2⟩
theorem join_mem_len (c : UInt8) : ∀ (l : List (List UInt8)) (x : List UInt8), x ∈ l → x.length ≤ (joinG c l).length
  | [], x, h => by cases h
  | [y], x, h => by rw [List.mem_singleton.1 h]; simp [joinG]
  | y :: z :: l, x, h => by
    rw [joinG, List.length_append, List.length_cons]
    rcases List.mem_cons.1 h with rfl | h
    · omega
    · have := join_mem_len c (z :: l) x h
      omega
theorem text_len {s x : List UInt8} (h : x ∈ textsB s) : x.length ≤ 48 * s.length := by
  have h1 := join_mem_len 32 _ x h
  rw [← search_join] at h1
  have h2 := nSearch_len s
  omega
/-- A word of a zone or of a string, within the bounds. -/
def OkW (l : List WordI) : Prop := ∀ x ∈ l, x.1.length ≤ 10000 ∧ -9223372036854775808 ≤ x.2 ∧ x.2 ≤ 9223372036854775807
theorem zone_low {gap : Nat} {l : List (List UInt8)} (hg : gap ≤ 1000) (hl : l.length ≤ 6) (h : ∀ s ∈ l, s.length ≤ 30) : ∀ y ∈ zoneP gap l, y.2 ≤ 1000000 := by
  intro y hy
  have h1 := begin_above (gap := gap) (zone_ord gap l).1 hy
  have h2 := (zone_bound gap 1441 l fun s hs => by have := texts_len s; have := h s hs; omega).1
  have h3 := Nat.mul_le_mul hl (show 1441 + 1 + gap ≤ 3000 by omega)
  omega
theorem zone_ok {gap : Nat} {l : List (List UInt8)} (hg : gap ≤ 1000) (hl : l.length ≤ 6) (h : ∀ s ∈ l, s.length ≤ 30) : OkW (castW (zoneP gap l)) := by
  intro z hz
  unfold castW at hz
  obtain ⟨y, hy, rfl⟩ := List.mem_map.1 hz
  have h1 := zone_low hg hl h y hy
  obtain ⟨s, hs, h2⟩ := zone_from gap l y hy
  have h3 := text_len h2
  have h4 := h s hs
  refine ⟨?_, ?_, ?_⟩
  · show y.1.length ≤ 10000
    omega
  · show -9223372036854775808 ≤ (y.2 : Int)
    omega
  · show (y.2 : Int) ≤ 9223372036854775807
    omega
theorem words_low {s : List UInt8} (h : s.length ≤ 30) : ∀ y ∈ wordsP s, y.2 ≤ 1000000 := by
  intro y hy
  have h1 := (idx_mem (k := 0) hy).2.1
  have h2 := texts_len s
  omega
theorem wordsT_ok {s : List UInt8} (h : s.length ≤ 30) : OkW (castW (wordsP s)) := by
  intro z hz
  unfold castW at hz
  obtain ⟨y, hy, rfl⟩ := List.mem_map.1 hz
  have h1 := words_low h y hy
  have h2 := text_len (idx_mem (k := 0) hy).2.2.2
  refine ⟨?_, ?_, ?_⟩
  · show y.1.length ≤ 10000
    omega
  · show -9223372036854775808 ≤ (y.2 : Int)
    omega
  · show (y.2 : Int) ≤ 9223372036854775807
    omega
theorem gaps_fact {gap : Nat} {l : List (List UInt8)} (h0 : 0 < gap) (hg : gap ≤ 1000) (hl : l.length ≤ 6) (h : ∀ s ∈ l, s.length ≤ 30) (a b : List UInt8) :
    phraseI (castW (zoneP gap l)) [a, b] ≠ [] ↔ ∃ s ∈ l, phraseI (castW (wordsP s)) [a, b] ≠ [] := by
  rw [phrase_two (zone_low hg hl h), tok_gaps h0]
  constructor
  · rintro ⟨s, hs, h2⟩
    exact ⟨s, hs, (phrase_two (words_low (h s hs)) a b).2 h2⟩
  · rintro ⟨s, hs, h2⟩
    exact ⟨s, hs, (phrase_two (words_low (h s hs)) a b).1 h2⟩
theorem some_len {α : Type} {l : List α} {n : Nat} (h : l.length = n) : decide (0 < n) = true ↔ l ≠ [] := by
  rw [decide_eq_true_iff, ← h, List.length_pos_iff]

end Go.Proofs.YtbnchnbblchmnaaGreatDoor
