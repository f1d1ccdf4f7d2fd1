/-
  The reference's Texts, SameTexts.
  strings.FieldsSeq: its iterator over a string of which every character is a blank or no white space.
  The program's Decode, Valid, Cut, Script.
-/
import Derived.Test.YtbnchnbblchmnaaGreatDoorPkAL
import Derived.Test.YtbnchnbblchmnaaGreatDoorPkAM
import Derived.BigQuiet
import Derived.Test.YtbnchnbblchmnaaGreatDoorPkAK
import Derived.RangeFuncNested
import Derived.RangeFuncBound
import Derived.RangeFuncLeaves
import Derived.Shelf.Abstract
import Derived.Shelf.AbstractIn
import Derived.Shelf.RegionOpen
import Derived.OwnWalkIn
import Derived.TacticsInMore
import Derived.LoopNIn
import Derived.LoopIn
import Derived.Test.YtbnchnbblchmnaaGreatDoorPkAF
import Derived.Test.YtbnchnbblchmnaaGreatDoorPkAE
namespace Go.Proofs.YtbnchnbblchmnaaGreatDoor
open Go.RowKit

theorem str_mid {P : Program} (T : TypeId) (hT : P.underlying T = some .string) (s : List UInt8) (i j : Nat) (h1 : i ≤ j) (h2 : j ≤ s.length) (W : World) :
    (Instr.sliceAt T (.string (str s)) (some (.int .i64 (i : Int))) (some (.int .i64 (j : Int))) none).run P W = .ok (.string (str ((s.take j).drop i))) W := by
  rw [run_sliceAt_string W _ _ _ _ _ hT, run_slice_string W T (str s) .i64 .i64 (i : Int) (j : Int) hT (by omega) (by omega) (by show (j : Int) ≤ (s.length : Int); omega)]
  congr 2
  apply ByteArray.ext
  simp [str]
  rw [List.drop_take]
theorem info_str10 : (Tryz.prog.info? 9).map (fun i => (i.zero, i.size, i.bytes)) = some (some (.string ⟨#[]⟩), 1, 16) := by kernel_rfl

/-- What the loop over a search form knows at the byte i: the parts ahead of b are O. -/
def TkAt (x : List UInt8) (i b : Nat) (O : List (List UInt8)) : Prop :=
  b ≤ i ∧ i ≤ x.length ∧ (∀ rest, partsG 32 [] (x.take i ++ rest) = O ++ partsG 32 ((x.take i).drop b) rest)
theorem TkAt.start (x : List UInt8) : TkAt x 0 0 [] := ⟨Nat.le_refl _, Nat.zero_le _, fun rest => by simp⟩
theorem TkAt.cur_nil {x : List UInt8} {i b : Nat} {O : List (List UInt8)} (h : TkAt x i b O) : (x.take i).drop b = [] ↔ i = b := by
  have h1 : ((x.take i).drop b).length = i - b := by rw [List.length_drop, List.length_take]; have := h.2.1; omega
  constructor
  · intro e
    rw [e] at h1
    simp at h1
    have := h.1
    omega
  · intro e
    refine List.eq_nil_of_length_eq_zero ?_
    omega
theorem TkAt.other {x : List UInt8} {i b : Nat} {O : List (List UInt8)} {c : UInt8} (h : TkAt x i b O) (hc : x[i]? = some c) (h32 : c ≠ 32) : TkAt x (i + 1) b O := by
  obtain ⟨h1, h2, h3⟩ := h
  have hl := (List.getElem?_eq_some_iff.1 hc).1
  have ht := take_next hc
  refine ⟨by omega, by omega, fun rest => ?_⟩
  have hd : (x.take (i + 1)).drop b = (x.take i).drop b ++ [c] := by
    rw [ht, List.drop_append_of_le_length (by rw [List.length_take]; omega)]
  rw [ht, List.append_assoc, h3 ([c] ++ rest), ← ht, hd, List.singleton_append, partsG, if_neg h32]
theorem TkAt.blank {x : List UInt8} {i b : Nat} {O : List (List UInt8)} (h : TkAt x i b O) (hc : x[i]? = some 32) : TkAt x (i + 1) (i + 1) (if i = b then O else O ++ [(x.take i).drop b]) := by
  have hn := h.cur_nil
  obtain ⟨h1, h2, h3⟩ := h
  have hl := (List.getElem?_eq_some_iff.1 hc).1
  have ht := take_next hc
  refine ⟨Nat.le_refl _, by omega, fun rest => ?_⟩
  have hd : (x.take (i + 1)).drop (i + 1) = [] := List.drop_of_length_le (by rw [List.length_take]; omega)
  rw [hd, ht, List.append_assoc, h3 ([32] ++ rest), List.singleton_append, partsG, if_pos rfl]
  by_cases e : i = b
  · rw [if_pos (hn.2 e), if_pos e]
  · rw [if_neg (fun e2 => e (hn.1 e2)), if_neg e, List.append_assoc]
    rfl
theorem TkAt.end_ {x : List UInt8} {b : Nat} {O : List (List UInt8)} (h : TkAt x x.length b O) : partsG 32 [] x = if x.length = b then O else O ++ [(x.take x.length).drop b] := by
  have hn := h.cur_nil
  have h3 := h.2.2 []
  rw [List.append_nil, List.take_length] at h3
  rw [List.take_length] at hn ⊢
  rw [h3, partsG]
  by_cases e : x.length = b
  · rw [if_pos (hn.2 e), if_pos e, List.append_nil]
  · rw [if_neg (fun e2 => e (hn.1 e2)), if_neg e]
theorem texts_len (s : List UInt8) : (textsB s).length ≤ 48 * s.length + 1 := by
  have hg : ∀ (ws : List (List UInt8)), (∀ x ∈ ws, x ≠ []) → ws.length ≤ (joinG (32 : UInt8) ws).length := by
    intro ws
    induction ws with
    | nil => intro _; exact Nat.zero_le _
    | cons x l ih =>
      intro h
      have h1 := List.length_pos_iff.2 (h x List.mem_cons_self)
      have h2 := ih fun y hy => h y (List.mem_cons_of_mem _ hy)
      rw [join_cons]
      split
      · rename_i e
        subst e
        exact h1
      · rw [List.length_append, List.length_cons, List.length_cons]
        omega
  have h1 := hg (textsB s) fun x hx => (texts_good s x hx).1
  rw [← search_join] at h1
  have := nSearch_len s
  omega

end Go.Proofs.YtbnchnbblchmnaaGreatDoor

namespace Go.Proofs.YtbnchnbblchmnaaGreatDoor
open Go.RowKit Go.Shelf Go.Lib
attribute [local go_sem] Oper.semAt_some

/-- What a round must keep for the iterator. -/
def KpF (Bs : Nat) (A B : World) : Prop := (Ready10 A → Ready10 B) ∧ ∀ v, A.cell? ⟨Bs, 0, none⟩ = some v → B.cell? ⟨Bs, 0, none⟩ = some v
theorem KpF.trans {Bs : Nat} {A B C : World} (h : KpF Bs A B) (k : KpF Bs B C) : KpF Bs A C := ⟨fun x => k.1 (h.1 x), fun v x => k.2 v (h.2 v x)⟩
theorem KpF.putObj {Bs : Nat} (W : World) (l : Nat) (o o' : Obj) (h : W.heap[l]? = some o) (ho : o.isCells = false) : KpF Bs W (W.putObj l o') :=
  ⟨fun x => x.putObj o' h ho, fun v x => by
    obtain ⟨o2, h1, h2⟩ := cell_blockT x
    exact (cell_same (World.putObj_heap_other (fun e => by rw [e, h] at h1; cases h1; rw [ho] at h2; cases h2))).trans x⟩
theorem KpF.below {Bs : Nat} {A B : World} (h : Below A.heap.size A B) : KpF Bs A B :=
  ⟨fun x => x.below h, fun v x => by
    obtain ⟨o2, h1, _⟩ := cell_blockT x
    exact (h.cell (Array.getElem?_eq_some_iff.1 h1).1).trans x⟩

theorem drewN_below {B : Nat} {a w : World} (h : Below B a w) (q : Nat) : Below B a (w.drewN q) := ⟨h.os, h.tape, h.output, h.size, h.block⟩
theorem encC_oneT {c : Nat} (h : c < 128) : encC c = [UInt8.ofNat c] := by
  unfold encC
  rw [if_pos h]
theorem encC_big {c : Nat} (h : 128 ≤ c) (h6 : c < 65536) : ∃ b t, encC c = b :: t ∧ 128 ≤ b.toNat := by
  have h1 := encC_len c
  cases he : encC c with
  | nil => rw [he] at h1; exact absurd h1.1 (by decide)
  | cons b t =>
    refine ⟨b, t, rfl, ?_⟩
    by_cases hb : 128 ≤ b.toNat
    · exact hb
    · have hm : UInt8.ofNat b.toNat ∈ encC c := by rw [he]; simp
      have := (encC_ascii (b := b.toNat) (by omega) h6).1 hm
      omega
theorem isSp_R {c : Nat} (h : c < 128) : Lib.isSp (UInt8.ofNat c) = Lib.isSpaceR c := by
  have key : ∀ c < 128, Lib.isSp (UInt8.ofNat c) = Lib.isSpaceR c := by decide +kernel
  exact key c h

theorem parts_none : ∀ (l cur : List UInt8), partsG (32 : UInt8) cur l = [] → cur = []
  | [], cur, h => by
    rw [partsG] at h
    split at h
    · assumption
    · cases h
  | b :: l, cur, h => by
    rw [partsG] at h
    split at h
    · split at h
      · assumption
      · cases h
    · have := parts_none l (cur ++ [b]) h
      exact (List.append_eq_nil_iff.1 this).1
/-- What the loop over a string knows ahead of the character c: a step on. -/
def FsAt (x : List UInt8) (pre : List (List UInt8)) (cur : List UInt8) (a : Nat) (R : List Nat) : Prop :=
  x.drop a = encL R ∧ (32 : UInt8) ∉ cur ∧ (∀ c ∈ R, okC c ∧ (c = 32 ∨ Lib.isSpaceR c = false)) ∧ partsG 32 [] x = pre ++ partsG 32 cur (encL R)
theorem FsAt.drop {x : List UInt8} {pre : List (List UInt8)} {cur : List UInt8} {a c : Nat} {R : List Nat} (h : FsAt x pre cur a (c :: R)) : x.drop (a + (encC c).length) = encL R ∧ x.take (a + (encC c).length) = x.take a ++ encC c ∧ a + (encC c).length ≤ x.length := by
  have e : x.drop a = encC c ++ encL R := h.1
  have hl := congrArg List.length e
  rw [List.length_drop, List.length_append] at hl
  have h1 := (encC_len c).1
  refine ⟨?_, ?_, by omega⟩
  · rw [← List.drop_drop, e, List.drop_left]
  · rw [List.take_add, e, List.take_left]
theorem FsAt.blank {x : List UInt8} {pre : List (List UInt8)} {cur : List UInt8} {a : Nat} {R : List Nat} (h : FsAt x pre cur a (32 :: R)) : FsAt x (if cur = [] then pre else pre ++ [cur]) [] (a + 1) R := by
  have h1 := h.drop
  have e : encC 32 = [32] := by decide
  rw [e] at h1
  refine ⟨h1.1, by simp, fun c hc => h.2.2.1 c (List.mem_cons_of_mem _ hc), ?_⟩
  rw [h.2.2.2, show encL (32 :: R) = (32 : UInt8) :: encL R from rfl, partsG, if_pos rfl]
  split
  · rfl
  · rw [List.append_assoc]; rfl
theorem FsAt.other {x : List UInt8} {pre : List (List UInt8)} {cur : List UInt8} {a c : Nat} {R : List Nat} (h : FsAt x pre cur a (c :: R)) (hc : c ≠ 32) : FsAt x pre (cur ++ encC c) (a + (encC c).length) R := by
  have h1 := h.drop
  have h32 : (32 : UInt8) ∉ encC c := fun hm => hc ((encC_ascii (b := 32) (by decide) (h.2.2.1 c List.mem_cons_self).1.1).1 hm)
  refine ⟨h1.1, fun hm => ?_, fun d hd => h.2.2.1 d (List.mem_cons_of_mem _ hd), ?_⟩
  · rcases List.mem_append.1 hm with hm | hm
    · exact h.2.1 hm
    · exact h32 hm
  · rw [h.2.2.2, show encL (c :: R) = encC c ++ encL R from rfl, parts_run _ _ _ h32]

set_option maxRecDepth 100000 in
set_option maxHeartbeats 4000000 in
theorem fs_stops (n : Nat) (hn : 1 ≤ n) (L : List Nat) (hL : ∀ c ∈ L, okC c ∧ (c = 32 ∨ Lib.isSpaceR c = false)) (x : List UInt8) (hx : encL L = x) (hmax : x.length ≤ 1000000) (Bs : Nat) (w0 : World) (hBs : Bs < w0.heap.size) (hS : Ready10 w0)
    (hb : w0.cell? ⟨Bs, 0, none⟩ = some (.string (str x))) :
    SeqStopsK Fence.wide n Tryz.prog 105 #[.pointer (some ⟨Bs, 0, none⟩)] (fun t : List UInt8 => #[Value.string (str t)]) (KpF Bs) (fun xs => xs = partsG 32 [] x) (fun _ => True) (partsG (32 : UInt8) [] x).length w0 := by
  intro l J Jx W hW hJ hJx hY h0
  have hSW : Ready10 W := hS.below hW
  have hbW : W.cell? ⟨Bs, 0, none⟩ = some (.string (str x)) := (hW.cell (p := ⟨Bs, 0, none⟩) hBs).trans hb
  have d1 : Fence.wide.fn 106 := trivial
  have d2 : Fence.wide.fn 107 := trivial
  have hsz : (str x).size = x.length := rfl
  have HY := Lib.hid hY
  have HJ := Lib.hid hJ
  have HL := Lib.hid hL
  have HX := Lib.hid hx
  clear hY hJ hJx hL hx hS hb hW hBs
  refine callsIn_of_wp Tryz.func105 rfl trivial ?_ rfl
  simp only [Tryz.ntmps105, List.size_toArray, List.length_cons, List.length_nil, Nat.reduceAdd, Nat.reduceSub, Array.replicate_succ, Array.replicate_zero, List.push_toArray, List.append_toArray, List.nil_append, List.cons_append]
  gi_wp2
  gi_loopw [3, 4] (fun s3 s4 wr => ∃ (pre : List (List UInt8)) (cur : List UInt8) (a : Nat) (R : List Nat), s4 = .int .i64 (a : Int) ∧ Hid ((cur = [] ∧ s3 = .int .i64 (-1)) ∨ (cur ≠ [] ∧ ∃ k : Nat, s3 = .int .i64 (k : Int) ∧ k < a ∧ (x.take a).drop k = cur)) ∧
    a ≤ x.length ∧ Hid (FsAt x pre cur a R) ∧ Hid (J pre wr) ∧ Hid (Ready10 wr) ∧ wr.cell? ⟨Bs, 0, none⟩ = some (.string (str x)))
    (fun _ s4 _ => x.length - (intOf s4).toNat)
  case atStart =>
    refine ⟨[], [], 0, L, rfl, Lib.hid (.inl ⟨rfl, rfl⟩), Nat.zero_le _, Lib.hid ⟨HX.out.symm, by simp, HL.out, ?_⟩, Lib.hid h0, Lib.hid hSW, hbW⟩
    rw [HX.out]; rfl
  case round =>
    obtain ⟨pre, cur, a, R, rfl, hC, ha, hR, hJw, hSw, hbw⟩ := hrel
    cases R with
    | nil =>
      have hxa : x.length ≤ a := by
        have := congrArg List.length hR.out.1
        rw [List.length_drop] at this
        have e : (encL []).length = 0 := rfl
        omega
      obtain rfl : a = x.length := by omega
      rcases hC.out with ⟨rfl, rfl⟩ | ⟨hcur, k, rfl, hk, hkc⟩
      · have HE : Hid (pre = partsG 32 [] x) := Lib.hid (by rw [hR.out.2.2.2]; show pre = pre ++ partsG 32 [] []; rw [partsG, if_pos rfl, List.append_nil])
        clear hC hR
        gi_wp2
        go_end0
        exact ⟨⟨_, rfl⟩, .inl ⟨pre, HE.out, hJw.out⟩⟩
      · rw [List.take_length] at hkc
        have HE : Hid (pre ++ [cur] = partsG 32 [] x) := Lib.hid (by rw [hR.out.2.2.2]; show pre ++ [cur] = pre ++ partsG 32 cur []; rw [partsG, if_neg hcur])
        have hlt : pre.length < (partsG (32 : UInt8) [] x).length := by rw [← HE.out]; simp
        obtain ⟨fn, tmps, assign, body, hy, hRn⟩ := HY.out pre cur wr hJw.out hlt
        have hsl : ∀ W : World, (Instr.sliceAt 9 (.string (str x)) (some (.int .i64 (k : Int))) none none).run Tryz.prog W = .ok (.string (str cur)) W := fun W => by rw [str_suf 9 Tryz.underlying9 x k (by omega) W, hkc]
        have hkz : (0 : Int) ≤ (k : Int) := by omega
        clear hC hR hkc hlt hcur
        gi_wp2
        refine hRn.mono ?_
        rintro e W3 (⟨rfl, hJ3, hk3⟩ | ⟨rfl, hJx3⟩)
        · gi_wp2
          go_end0
          exact ⟨⟨_, rfl⟩, .inl ⟨pre ++ [cur], HE.out, hJ3⟩⟩
        · gi_wp2
          go_end0
          exact ⟨⟨_, rfl⟩, .inr ⟨pre ++ [cur], trivial, hJx3⟩⟩
    | cons c R =>
      have hdr := hR.out.drop
      have hl1 := (encC_len c).1
      have hc := hR.out.2.2.1 c List.mem_cons_self
      have hax : a < x.length := by omega
      have haz : (a : Int) < (x.length : Int) := by omega
      have hlen : pre.length ≤ (partsG (32 : UInt8) [] x).length := by rw [hR.out.2.2.2, List.length_append]; omega
      have hltc : cur ≠ [] → pre.length < (partsG (32 : UInt8) [] x).length := by
        intro h0
        have h1 := hR.out.other
        rw [hR.out.2.2.2, List.length_append]
        have : partsG (32 : UInt8) cur (encL (c :: R)) ≠ [] := by
          intro e
          have h2 := parts_none (encL (c :: R)) cur e
          exact h0 h2
        have := List.length_pos_iff.2 this
        omega
      have hdrop : x.drop a = encC c ++ encL R := hR.out.1
      have hkl : a < (str x).size := hax
      obtain ⟨b, hb⟩ : ∃ b : UInt8, (str x)[a]'hkl = b := ⟨_, rfl⟩
      have hxb : x[a]? = some b := by rw [← hb]; exact str_at x a hax
      have hd0 : (x.drop a)[0]? = some b := by rw [List.getElem?_drop]; exact hxb
      have hb256 := b.toNat_lt
      have hbz : (b.toNat : Int) < 256 := by omega
      have hbz0 : (0 : Int) ≤ (b.toNat : Int) := by omega
      have hT := hSw.out.ascii b.toNat (by omega)
      rw [show UInt8.ofNat b.toNat = b by simp] at hT
      have hwb : wrap32 (b.toNat : Int) = (b.toNat : Int) := by unfold wrap32; omega
      by_cases h128 : c < 128
      · have he1 := encC_oneT h128
        have hbc : b = UInt8.ofNat c := by
          rw [hdrop, he1] at hd0
          exact (Option.some.inj hd0).symm
        have hbn : b.toNat = c := by rw [hbc]; simp; omega
        rw [hbn] at hT
        have hb128 : (b.toNat : Int) < 128 := by omega
        have hsp : Lib.isSp b = Lib.isSpaceR c := by rw [hbc]; exact isSp_R h128
        by_cases h32 : c = 32
        · subst h32
          have HN := Lib.hid hR.out.blank
          rw [hsp, show Lib.isSpaceR 32 = true by decide, if_pos rfl] at hT
          rcases hC.out with ⟨rfl, rfl⟩ | ⟨hcur, k, rfl, hk, hkc⟩
          · have HN1 : Hid (FsAt x pre [] (a + 1) R) := Lib.hid (by have := HN.out; rwa [if_pos rfl] at this)
            have ha1 : a + 1 ≤ x.length := by omega
            clear hdr hdrop hxb hd0 he1 hbc hsp hc hltc hR hC HN
            gi_wp2
            go_roundw
            case rel => exact ⟨pre, [], a + 1, R, by simp, Lib.hid (.inl ⟨rfl, rfl⟩), ha1, HN1, hJw, hSw, hbw⟩
            case measure => simp [intOf]; omega
          · have HN1 : Hid (FsAt x (pre ++ [cur]) [] (a + 1) R) := Lib.hid (by have := HN.out; rwa [if_neg hcur] at this)
            have ha1 : a + 1 ≤ x.length := by omega
            have hsl : ∀ W : World, (Instr.sliceAt 9 (.string (str x)) (some (.int .i64 (k : Int))) (some (.int .i64 (a : Int))) none).run Tryz.prog W = .ok (.string (str cur)) W := fun W => by rw [str_mid 9 Tryz.underlying9 x k a (by omega) (by omega) W, hkc]
            have hkz : (0 : Int) ≤ (k : Int) := by omega
            obtain ⟨fn, tmps, assign, body, hy, hRn⟩ := HY.out pre cur wr hJw.out (hltc hcur)
            clear hdr hdrop hxb hd0 he1 hbc hsp hc hltc hR hC HN hkc hcur
            gi_wp2
            refine hRn.mono ?_
            rintro e W3 (⟨rfl, hJ3, hk3⟩ | ⟨rfl, hJx3⟩)
            · have hb3 := hk3.2 _ hbw
              have HS3 := Lib.hid (hk3.1 hSw.out)
              have HJ3 := Lib.hid hJ3
              clear hk3 hJ3
              gi_wp2
              go_roundw
              case rel => exact ⟨pre ++ [cur], [], a + 1, R, by simp, Lib.hid (.inl ⟨rfl, rfl⟩), ha1, HN1, HJ3, HS3, hb3⟩
              case measure => simp [intOf]; omega
            · gi_wp2
              refine bodyPost_ret (results_none rfl _ _ _) rfl ?_
              exact ⟨⟨_, rfl⟩, .inr ⟨pre ++ [cur], trivial, hJx3⟩⟩
        · have HN := Lib.hid (hR.out.other h32)
          have HD := Lib.hid hdr.2.1
          rw [he1] at HN HD
          have hs0 : Lib.isSpaceR c = false := by
            rcases hc.2 with h | h
            · exact absurd h h32
            · exact h
          rw [hsp, hs0, if_neg (by decide)] at hT
          have ha1 : a + 1 ≤ x.length := by omega
          have hta : (x.take a).length = a := by rw [List.length_take]; omega
          rcases hC.out with ⟨rfl, rfl⟩ | ⟨hcur, k, rfl, hk, hkc⟩
          · have HN1 : Hid (FsAt x pre [UInt8.ofNat c] (a + 1) R) := HN
            have HK : Hid ((x.take (a + 1)).drop a = [UInt8.ofNat c]) := Lib.hid (by
              have h1 := HD.out
              rw [show [UInt8.ofNat c].length = 1 from rfl] at h1
              rw [h1, List.drop_left' hta])
            clear hdr hdrop hxb hd0 he1 hbc hsp hc hltc hR hC HN HD hta
            gi_wp2
            go_roundw
            case rel => exact ⟨pre, [UInt8.ofNat c], a + 1, R, by simp, Lib.hid (.inr ⟨by simp, a, rfl, by omega, HK.out⟩), ha1, HN1, hJw, hSw, hbw⟩
            case measure => simp [intOf]; omega
          · have HN1 : Hid (FsAt x pre (cur ++ [UInt8.ofNat c]) (a + 1) R) := HN
            have HK : Hid ((x.take (a + 1)).drop k = cur ++ [UInt8.ofNat c]) := Lib.hid (by
              have h1 := HD.out
              rw [show [UInt8.ofNat c].length = 1 from rfl] at h1
              rw [h1, List.drop_append_of_le_length (by omega), hkc])
            have hkz : (0 : Int) ≤ (k : Int) := by omega
            clear hdr hdrop hxb hd0 he1 hbc hsp hc hltc hR hC HN HD hta hkc hcur
            gi_wp2
            go_roundw
            case rel => exact ⟨pre, cur ++ [UInt8.ofNat c], a + 1, R, by simp, Lib.hid (.inr ⟨by simp, k, rfl, by omega, HK.out⟩), ha1, HN1, hJw, hSw, hbw⟩
            case measure => simp [intOf]; omega
      · have h32 : c ≠ 32 := by omega
        have HN := Lib.hid (hR.out.other h32)
        have HD := Lib.hid hdr.2.1
        have ha1 := hdr.2.2
        have hs0 : Lib.isSpaceR c = false := by
          rcases hc.2 with h | h
          · exact absurd h h32
          · exact h
        have hb128 : (128 : Int) ≤ (b.toNat : Int) := by
          obtain ⟨b2, t2, h1, h2⟩ := encC_big (by omega) hc.1.1
          rw [hdrop, h1] at hd0
          have : b2 = b := Option.some.inj hd0
          rw [← this]; omega
        have hls := encC_len c
        have hta : (x.take a).length = a := by rw [List.length_take]; omega
        have hsl : ∀ W : World, (Instr.sliceAt 9 (.string (str x)) (some (.int .i64 (a : Int))) none none).run Tryz.prog W = .ok (.string (str (encC c ++ encL R))) W := fun W => by rw [str_suf 9 Tryz.underlying9 x a (by omega) W, hdrop]
        have HDec := Lib.hid (decode_first c (encL R) wr hSw.out.utf8 hc.1)
        have HSp := Lib.hid fun W (hW : Below wr.heap.size wr W) => isSpace_any c W (hSw.out.below hW).white hc.1.1
        rw [hs0] at HSp
        obtain ⟨m, hm⟩ : ∃ m, (encC c).length = m := ⟨_, rfl⟩
        rw [hm] at HN HD ha1 hls HDec
        have HM := Lib.hid hm
        have haz0 : (0 : Int) ≤ (a : Int) := by omega
        obtain ⟨T0, hT0⟩ : ∃ z : Int, (if Lib.isSp b then 1 else 0) = z := ⟨_, rfl⟩
        rw [hT0] at hT
        obtain ⟨ec, hec⟩ : ∃ ec, encC c = ec := ⟨_, rfl⟩
        rw [hec] at HN HD HDec hsl
        have HE0 : Hid (ec ≠ []) := Lib.hid (by rw [← hec]; intro e; rw [e] at hm; simp at hm; omega)
        rcases hC.out with ⟨rfl, rfl⟩ | ⟨hcur, k, rfl, hk, hkc⟩
        · have HN1 : Hid (FsAt x pre ec (a + m) R) := HN
          have HK : Hid ((x.take (a + m)).drop a = ec) := Lib.hid (by rw [HD.out, List.drop_left' hta])
          clear hdr hdrop hxb hd0 hc hltc hR hC HN HD hta hT0 hec hm hs0 h32 h128
          gi_wp2_with fail
          refine (callsIn_wide.2 HDec.out).mono ?_
          rintro e W1 ⟨rfl, k1⟩
          gi_wp2_with fail
          refine (callsIn_wide.2 (HSp.out _ k1)).mono ?_
          rintro e W2 ⟨rfl, q, hq⟩
          have k2 : Below wr.heap.size wr W2 := by rw [hq]; exact drewN_below k1 q
          clear hq
          have hb2 := (KpF.below (Bs := Bs) k2).2 _ hbw
          have HS2 := Lib.hid (hSw.out.below k2)
          have HJ2 := Lib.hid (HJ.out _ _ _ none hJw.out (grown_of_below none k2) (fun r e => by cases e))
          gi_wp2
          go_roundw
          case rel => exact ⟨pre, ec, a + m, R, by simp, Lib.hid (.inr ⟨HE0.out, a, rfl, by omega, HK.out⟩), ha1, HN1, HJ2, HS2, hb2⟩
          case measure => simp [intOf]; omega
        · have HN1 : Hid (FsAt x pre (cur ++ ec) (a + m) R) := HN
          have HK : Hid ((x.take (a + m)).drop k = cur ++ ec) := Lib.hid (by rw [HD.out, List.drop_append_of_le_length (by omega), hkc])
          clear hdr hdrop hxb hd0 hc hltc hR hC HN HD hta hT0 hec hm hs0 hkc h32 h128
          have hkz : (0 : Int) ≤ (k : Int) := by omega
          have HC0 := Lib.hid hcur
          clear hcur
          gi_wp2_with fail
          refine (callsIn_wide.2 HDec.out).mono ?_
          rintro e W1 ⟨rfl, k1⟩
          gi_wp2_with fail
          refine (callsIn_wide.2 (HSp.out _ k1)).mono ?_
          rintro e W2 ⟨rfl, q, hq⟩
          have k2 : Below wr.heap.size wr W2 := by rw [hq]; exact drewN_below k1 q
          clear hq
          have hb2 := (KpF.below (Bs := Bs) k2).2 _ hbw
          have HS2 := Lib.hid (hSw.out.below k2)
          have HJ2 := Lib.hid (HJ.out _ _ _ none hJw.out (grown_of_below none k2) (fun r e => by cases e))
          gi_wp2
          go_roundw
          case rel => exact ⟨pre, cur ++ ec, a + m, R, by simp, Lib.hid (.inr ⟨fun e => HC0.out (List.append_eq_nil_iff.1 e).1, k, rfl, by omega, HK.out⟩), ha1, HN1, HJ2, HS2, hb2⟩
          case measure => simp [intOf]; omega

end Go.Proofs.YtbnchnbblchmnaaGreatDoor

namespace Go.Proofs.YtbnchnbblchmnaaGreatDoor
open Go.RowKit

set_option maxRecDepth 20000 in
set_option maxHeartbeats 1600000 in
theorem prDecode_any (s : List UInt8) (w : World) (hS : Spans w) (hlen : s.length ≤ 10000) :
    Calls Tryz.prog 69 #[.string (str s)] w fun e w' => DecEnd w (decR s) e w' ∧ Below w.heap.size w w' := by
  have hsz : (str s).size = s.length := rfl
  have hE := Lib.hid (encoded_any s w hS)
  cases hr : decR s with
  | none =>
    rw [hr] at hE
    go_enter Tryz.func69, Tryz.ntmps69
    go_wp2_with fail
    refine hE.out.mono ?_
    rintro e w1 ⟨rfl, k1⟩
    simp only [Option.isSome_none]
    go_wp2
    go_ret2
    exact ⟨DecEnd.bad, k1⟩
  | some L =>
    rw [hr] at hE
    have HR := Lib.hid hr
    clear hr
    go_enter Tryz.func69, Tryz.ntmps69
    go_wp2_with fail
    refine hE.out.mono ?_
    rintro e w1 ⟨rfl, k1⟩
    simp only [Option.isSome_some]
    have k1s := k1.size
    go_wp2
    go_loopw [4] (fun v wr => ∃ (pos : Nat) (l : List Nat), wr.heap[w1.heap.size]? = some (.stringIter (str s) pos) ∧ Hid (Past s pos l) ∧ wr.ownsRow (w1.heap.size + 1) 3 1 v l.length (l.map nv) ∧ Below w1.heap.size w1 wr) (fun _ wr => s.length - wr.iterPos w1.heap.size)
    case atStart =>
      exact ⟨0, [], World.iter_heap w1 (str s) 0, Lib.hid (Past.start s), World.ownsRow_nil _ _ _ _, (Below.refl _ _).alloc (Nat.le_refl _) _⟩
    case round =>
      obtain ⟨pos, l, hit, HP, hown, hb⟩ := hrel
      have hks : w1.heap.size < wr.heap.size := (Array.getElem?_eq_some_iff.1 hit).1
      by_cases hp : pos < s.length
      · have hown2 := own_iter hown hit (pos + (Utf8.decode (str s) pos).2)
        obtain ⟨c, n, hcn⟩ : ∃ c n, Utf8.decode (str s) pos = (c, n) := ⟨_, _, rfl⟩
        have hnx : ∀ ty, (Instr.next (.pointer (some ⟨w1.heap.size, 0, none⟩)) true ty).run Tryz.prog wr = _ := fun ty => Lib.run_next_any_at wr w1.heap.size (str s) pos ty hit hp
        have hit2 := Lib.iterAt_heap wr w1.heap.size (str s) pos (pos + (Utf8.decode (str s) pos).2) hit
        have hbw2 := Lib.below_iterAt hb (k := w1.heap.size) (Nat.le_refl _) (str s) (pos + (Utf8.decode (str s) pos).2)
        have hcm := decode_le (str s) pos
        simp only [hcn] at hnx hit2 hbw2 hcm hown2
        have hcz : (c : Int) ≤ 2147483647 := by omega
        have hcz0 : (0 : Int) ≤ (c : Int) := by omega
        have hc : hasR (c : Int) = true := by
          cases hc : hasR (c : Int) with
          | true => rfl
          | false => have h := HP.out.rune_bad hp hcn hc; rw [HR.out] at h; cases h
        obtain ⟨h1, h0⟩ := HP.out.rune hp hcn hc
        have HN := Lib.hid h1
        have hle := h1.1
        have hll := HP.out.2.1
        have hsb : w1.heap.size + 1 ≤ (wr.iterAt w1.heap.size (str s) (pos + n)).heap.size := by rw [Lib.iterAt_size]; omega
        clear hcn h1 hc
        go_wp2_with (at_builtin; refine append_int (wr.iterAt w1.heap.size (str s) (pos + n)) rfl (.tmp 15) (.tmp 18) rfl (w1.heap.size + 1) u4 l rfl hown2 c _ rfl rfl (by omega) hsb ?_; intro r1 w3 hown3 hb3)
        go_roundw
        case rel => exact ⟨pos + n, l ++ [c], (hb3.block _ (by omega)).trans hit2, HN, hown3, hbw2.trans (hb3.mono (by omega))⟩
        case measure =>
          rw [iterPos_at ((hb3.block _ (by omega)).trans hit2), iterPos_at hit]
          omega
      · have HE : Hid (L = l) := Lib.hid (by
          have h := HP.out.done hp
          rw [HR.out] at h
          exact Option.some.inj h)
        have hnx : ∀ ty, (Instr.next (.pointer (some ⟨w1.heap.size, 0, none⟩)) true ty).run Tryz.prog wr = _ := fun ty => Lib.run_next_end_at wr w1.heap.size (str s) pos ty hit hp
        go_wp2
        go_ret2
        rw [HE.out]
        exact ⟨DecEnd.good (own_less (by omega) hown), below_next k1 hb⟩

theorem Past.took {s : List UInt8} {k : Nat} {l L : List Nat} (h : Past s k l) (hr : decR s = some L) : (∃ m, L = l ++ m) ∧ s.take k = encL l := by
  have h1 := h.2.2
  rw [hr] at h1
  cases hm : decR (s.drop k) with
  | none => rw [hm] at h1; cases h1
  | some m =>
    rw [hm] at h1
    have h2 : L = l ++ m := Option.some.inj h1
    refine ⟨⟨m, h2⟩, ?_⟩
    have e1 := (enc_dec hr).1
    have e2 := (enc_dec hm).1
    rw [h2, encL_app, e2] at e1
    have e3 : s.take k ++ s.drop k = s := List.take_append_drop k s
    rw [← e1] at e3
    conv at e3 => rhs; rw [← e1]
    exact (List.append_left_inj _).1 (by rw [e1] at e3; rw [e3])
theorem str_head {P : Program} (T : TypeId) (hT : P.underlying T = some .string) (s : List UInt8) (k : Nat) (h : k ≤ s.length) (W : World) :
    (Instr.sliceAt T (.string (str s)) none (some (.int .i64 (k : Int))) none).run P W = .ok (.string (str (s.take k))) W := by
  rw [run_sliceAt_string W _ _ _ _ _ hT, run_slice_string_h W _ _ hT .i64 (k : Int) (by omega) (by show (k : Int) ≤ (s.length : Int); omega)]
  congr 2
  apply ByteArray.ext
  simp [str]

set_option maxRecDepth 20000 in
set_option maxHeartbeats 1600000 in
theorem prCut_any (s : List UInt8) (n : Int) (w : World) (hS : Spans w) (hn : n ≤ 9223372036854775807) :
    Calls Tryz.prog 102 #[.string (str s), .int .i64 n] w fun e w' => e = .returned (.string (str (cutR s n))) ∧ Below w.heap.size w w' := by
  have hsz : (str s).size = s.length := rfl
  obtain ⟨R, hR⟩ : ∃ R, cutR s n = R := ⟨_, rfl⟩
  rw [hR]
  have HR := Lib.hid hR
  clear hR
  have hE := Lib.hid (encoded_any s w hS)
  by_cases h1 : n < 1
  · have t1 : decide (n < 1) = true := by simpa using h1
    have HE : Hid (R = []) := Lib.hid (by rw [← HR.out, cutR_less h1])
    go_enter Tryz.func102, Tryz.ntmps102
    go_wp2
    go_ret
    rw [HE.out]
    exact ⟨rfl, Below.refl _ _⟩
  have t1 : decide (n < 1) = false := by simpa using h1
  cases hr : decR s with
  | none =>
    rw [hr] at hE
    have HE : Hid (R = []) := Lib.hid (by rw [← HR.out, cutR_none hr])
    clear hr
    go_enter Tryz.func102, Tryz.ntmps102
    go_wp2_with fail
    refine hE.out.mono ?_
    rintro e w1 ⟨rfl, k1⟩
    simp only [Option.isSome_none]
    go_wp2
    go_ret
    rw [HE.out]
    exact ⟨rfl, k1⟩
  | some L =>
    rw [hr] at hE
    have HD := Lib.hid hr
    have HRL : Hid (R = encL (L.take n.toNat)) := Lib.hid (by rw [← HR.out, cutR_some hr h1])
    clear hr
    go_enter Tryz.func102, Tryz.ntmps102
    go_wp2_with fail
    refine hE.out.mono ?_
    rintro e w1 ⟨rfl, k1⟩
    simp only [Option.isSome_some]
    go_wp2
    go_loopw [1] (fun v wr => ∃ (pos : Nat) (l : List Nat) (k : Nat) (m : Int), wr.heap[w1.heap.size]? = some (.stringIter (str s) pos) ∧ Hid (Past s pos l) ∧ Hid (l.length = k) ∧ k ≤ s.length ∧ (k : Int) ≤ n ∧ v = .int .i64 m ∧ m = n - (k : Int) ∧ Below w1.heap.size w1 wr) (fun _ wr => s.length - wr.iterPos w1.heap.size)
    case atStart =>
      exact ⟨0, [], 0, n, World.iter_heap w1 (str s) 0, Lib.hid (Past.start s), Lib.hid rfl, Nat.zero_le _, by omega, rfl, by omega, (Below.refl _ _).alloc (Nat.le_refl _) _⟩
    case round =>
      obtain ⟨pos, l, k, m, hit, HP, HK, hk, hkn, rfl, hm, hb⟩ := hrel
      have hks : w1.heap.size < wr.heap.size := (Array.getElem?_eq_some_iff.1 hit).1
      by_cases hp : pos < s.length
      · obtain ⟨c, n1, hcn⟩ : ∃ c n1, Utf8.decode (str s) pos = (c, n1) := ⟨_, _, rfl⟩
        have hnx : ∀ ty, (Instr.next (.pointer (some ⟨w1.heap.size, 0, none⟩)) true ty).run Tryz.prog wr = _ := fun ty => Lib.run_next_any_at wr w1.heap.size (str s) pos ty hit hp
        have hit2 := Lib.iterAt_heap wr w1.heap.size (str s) pos (pos + (Utf8.decode (str s) pos).2) hit
        have hbw2 := Lib.below_iterAt hb (k := w1.heap.size) (Nat.le_refl _) (str s) (pos + (Utf8.decode (str s) pos).2)
        have hcm := decode_le (str s) pos
        simp only [hcn] at hnx hit2 hbw2 hcm
        have hc : hasR (c : Int) = true := by
          cases hc : hasR (c : Int) with
          | true => rfl
          | false => have h := HP.out.rune_bad hp hcn hc; rw [HD.out] at h; cases h
        obtain ⟨h2, h0⟩ := HP.out.rune hp hcn hc
        obtain ⟨h3, h4⟩ := HP.out.took HD.out
        by_cases hm0 : m = 0
        · have t2 : (m == 0) = true := by simpa using hm0
          have HE : Hid (R = s.take pos) := Lib.hid (by
            obtain ⟨m2, h3⟩ := h3
            rw [HRL.out, h4, h3, List.take_append_of_le_length (by rw [HK.out]; omega), List.take_of_length_le (by rw [HK.out]; omega)])
          have hsl := str_head (P := Tryz.prog) 9 Tryz.underlying9 s pos (by omega)
          clear hcn h2 hc h3 h4
          go_wp2
          go_ret
          rw [HE.out]
          exact ⟨rfl, below_next k1 hbw2⟩
        · have t2 : (m == 0) = false := by simpa using hm0
          have HN := Lib.hid h2
          have hle := h2.1
          have hll := h2.2.1
          rw [List.length_append, List.length_singleton, HK.out] at hll
          have HK2 : Hid ((l ++ [c]).length = k + 1) := Lib.hid (by rw [List.length_append, List.length_singleton, HK.out])
          clear hcn h2 hc h3 h4
          go_wp2
          go_roundw
          case rel => exact ⟨pos + n1, l ++ [c], k + 1, _, hit2, HN, HK2, by omega, by omega, rfl, by omega, hbw2⟩
          case measure =>
            rw [iterPos_at hit2, iterPos_at hit]
            omega
      · have HE : Hid (R = s) := Lib.hid (by
          have h := HP.out.done hp
          rw [HD.out] at h
          have h2 : L = l := Option.some.inj h
          rw [HRL.out, h2, List.take_of_length_le (by rw [HK.out]; omega), ← h2]
          exact (enc_dec HD.out).1)
        have hnx : ∀ ty, (Instr.next (.pointer (some ⟨w1.heap.size, 0, none⟩)) true ty).run Tryz.prog wr = _ := fun ty => Lib.run_next_end_at wr w1.heap.size (str s) pos ty hit hp
        go_wp2
        go_ret
        rw [HE.out]
        exact ⟨rfl, below_next k1 hb⟩

/-- One character more: the script so far. -/
def stp (o c : Nat) : Nat := if o = 0 then (clsR (c : Int)).1 else if (clsR (c : Int)).1 ≠ 0 ∧ (clsR (c : Int)).1 ≠ o then 4 else o
theorem cls3N (c : Int) : (clsN c).1 ≤ 3 := by
  unfold clsN
  repeat' split
  all_goals decide
theorem cls3 (c : Int) : (clsR c).1 ≤ 3 := by
  unfold clsR
  split
  · exact cls3N _
  · exact cls3N _
theorem stp_mixed : ∀ l : List Nat, l.foldl stp 4 = 4
  | [] => rfl
  | c :: l => by
    have h := cls3 (c : Int)
    have e : stp 4 c = 4 := by
      unfold stp
      rw [if_neg (by decide)]
      split <;> rfl
    rw [List.foldl_cons, e]
    exact stp_mixed l
theorem stp_scr : ∀ (l : List Nat) (o : Nat), l.foldl stp o = scrF o l
  | [], o => rfl
  | c :: l, o => by
    rw [List.foldl_cons]
    by_cases h0 : (clsR (c : Int)).1 = 0
    · rw [scr_none h0]
      have e : stp o c = o := by
        unfold stp
        by_cases ho : o = 0
        · rw [if_pos ho, h0, ho]
        · rw [if_neg ho, if_neg (fun h => h.1 h0)]
      rw [e]
      exact stp_scr l o
    · by_cases ho : o = 0
      · rw [scr_next h0 (.inl ho)]
        have e : stp o c = (clsR (c : Int)).1 := by unfold stp; rw [if_pos ho]
        rw [e]
        exact stp_scr l _
      · by_cases h1 : (clsR (c : Int)).1 = o
        · rw [scr_next h0 (.inr h1)]
          have e : stp o c = (clsR (c : Int)).1 := by unfold stp; rw [if_neg ho, if_neg (fun h => h.2 h1), h1]
          rw [e]
          exact stp_scr l _
        · rw [scr_mixed h0 ho h1]
          have e : stp o c = 4 := by unfold stp; rw [if_neg ho, if_pos ⟨h0, h1⟩]
          rw [e]
          exact stp_mixed l
theorem scriptR_some {s : List UInt8} {l : List Nat} (h : decR s = some l) : scriptR s = l.foldl stp 0 := by unfold scriptR; rw [h, stp_scr]
theorem scriptR_none {s : List UInt8} (h : decR s = none) : scriptR s = 0 := by unfold scriptR; rw [h]

end Go.Proofs.YtbnchnbblchmnaaGreatDoor
