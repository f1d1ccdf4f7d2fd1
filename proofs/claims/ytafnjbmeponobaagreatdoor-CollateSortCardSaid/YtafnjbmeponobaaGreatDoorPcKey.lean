/-
  The program's key: its closures, level by level.
-/
import Derived.Test.YtafnjbmeponobaaGreatDoorPkBE
namespace Go.Proofs.YtafnjbmeponobaaGreatDoor
open Go.RowKit

theorem Arr.form3 {α : Type} {val : α → Value} {w : World} {B : Nat} {v : Value} {xs : List α} (h : Arr val w B v xs) : ∃ A n c, v = .slice A n c := by
  obtain ⟨A, c, e⟩ := h.form
  exact ⟨A, _, c, e⟩
theorem info_u8k : (Tryz.prog.info? 5).map (fun i => (i.zero, i.size, i.bytes)) = some (some (.int .u8 0), 1, 1) := by kernel_rfl
/-- The captured b: its block, its bytes. -/
structure Buf (w : World) (P : Nat) (v : Value) (bs : List UInt8) : Prop where
  box : Box w P 30 #[v]
  own : w.ownsRow (P + 1) 5 1 v bs.length (bs.map bv)
def EndBuf (w : World) (P : Nat) (bs : List UInt8) (e : Ending) (w' : World) : Prop := e = .returned (.tuple #[]) ∧ (∃ v, Buf w' P v bs) ∧ Below P w w'
theorem Buf.alloc {w : World} {P : Nat} {v : Value} {bs : List UInt8} (h : Buf w P v bs) (o : Obj) : Buf (w.alloc o) P v bs := ⟨h.box.alloc o, own_keep_below h.own ((Below.refl _ _).alloc (Nat.le_refl _) o)⟩
theorem Buf.store {w : World} {P : Nat} {v : Value} {u : Value} {bs : List UInt8} (hb : Box w P 30 #[u]) (h : w.ownsRow (P + 1) 5 1 v bs.length (bs.map bv)) : Buf (w.setCell ⟨P, 0, none⟩ v) P v bs :=
  ⟨hb.put 0 v, own_sameG h fun g hg => Below.heap_setCell w ⟨P, 0, none⟩ v g (by have := (own_blockG h hg).1; show g ≠ P; omega)⟩
theorem u8_of {p k : Nat} (h : k = p % 256) : ((k : Nat) : Int) = ((UInt8.ofNat p).toNat : Int) := by
  rw [UInt8.toNat_ofNat', h]
def evV (e : El) : Value := .agg #[.int .i64 (e.1 : Int), .int .i64 (e.2.1 : Int), .int .i64 (e.2.2 : Int)]
def putPrim (e : El) : List UInt8 := if e.1 = 0 then [] else (three e.1).map UInt8.ofNat
def putSec (e : El) : List UInt8 := [UInt8.ofNat e.2.1]
def putTer (e : El) : List UInt8 := [UInt8.ofNat e.2.2]
/-- An element that can be written. -/
def okE (e : El) : Prop := e.1 ≤ 10000041 ∧ 1 ≤ e.2.1 ∧ e.2.1 ≤ 255 ∧ 1 ≤ e.2.2 ∧ e.2.2 ≤ 2

set_option maxRecDepth 20000 in
set_option maxHeartbeats 3200000 in
theorem putSec_any (P : Nat) (v : Value) (bs : List UInt8) (e : El) (w : World) (hb : Buf w P v bs) (he : okE e) (hl : bs.length ≤ 1000000) :
    Calls Tryz.prog 69 #[evV e, .pointer (some ⟨P, 0, none⟩)] w (EndBuf w P (bs ++ putSec e)) := by
  have hPl := hb.box.lt
  have hV : Buf (w.alloc (.cells #[.int .i64 (e.1 : Int), .int .i64 (e.2.1 : Int), .int .i64 (e.2.2 : Int)] 75)) P v bs := hb.alloc _
  have hsz : (w.alloc (.cells #[.int .i64 (e.1 : Int), .int .i64 (e.2.1 : Int), .int .i64 (e.2.2 : Int)] 75)).heap.size = w.heap.size + 1 := by simp
  have hW : IntKind.u8.wrap (e.2.1 : Int) = ((UInt8.ofNat e.2.1).toNat : Int) := by
    have h2 : e.2.1 ≤ 255 := by have := he; unfold okE at this; omega
    rw [UInt8.toNat_ofNat', IntKind.wrap_u8]
    omega
  obtain ⟨b, hbb⟩ : ∃ b, UInt8.ofNat e.2.1 = b := ⟨_, rfl⟩
  unfold putSec
  rw [hbb] at hW ⊢
  have d0 : (w.alloc (.cells #[.int .i64 (e.1 : Int), .int .i64 (e.2.1 : Int), .int .i64 (e.2.2 : Int)] 75)).cell? ⟨P, 0, none⟩ = some v := by rw [hV.box.cell]; rfl
  have f0 : (w.alloc (.cells #[.int .i64 (e.1 : Int), .int .i64 (e.2.1 : Int), .int .i64 (e.2.2 : Int)] 75)).frozen? ⟨P, 0, none⟩ = false := hV.box.free 0
  have hB : Below P w (w.alloc (.cells #[.int .i64 (e.1 : Int), .int .i64 (e.2.1 : Int), .int .i64 (e.2.2 : Int)] 75)) := (Below.refl _ _).alloc (Nat.le_of_lt hPl) _
  unfold evV
  clear hb hbb he
  go_enter Tryz.func69, Tryz.ntmps69
  obtain ⟨W, hWW⟩ : ∃ W, w.alloc (.cells #[.int .i64 (e.1 : Int), .int .i64 (e.2.1 : Int), .int .i64 (e.2.2 : Int)] 75) = W := ⟨_, rfl⟩
  have hbox := Box.made w 75 #[.int .i64 (e.1 : Int), .int .i64 (e.2.1 : Int), .int .i64 (e.2.2 : Int)]
  rw [hWW] at hV hsz d0 f0 hB hbox
  have hPW : P + 1 ≤ W.heap.size := by omega
  clear hsz
  have e1 : W.cell? ⟨w.heap.size, 1, none⟩ = some (.int .i64 (e.2.1 : Int)) := hbox.cell 1
  have e2 : W.cell? ⟨w.heap.size, 2, none⟩ = some (.int .i64 (e.2.2 : Int)) := hbox.cell 2
  go_wp2_with (at_builtin; refine append_one (val := bv) 30 5 (.int .u8 0) 1 Tryz.underlying30 info_u8k rfl (by decide) one_bv W rfl (.tmp 3) (.tmp 7) rfl (P + 1) v bs rfl hV.own b _ rfl rfl (by omega) hPW ?_; intro v7 w7 hown7 hb7; obtain ⟨A7, N7, c7, rfl⟩ := (Arr.of_own hown7).form3; have hbox7 := hV.box.below hb7 (Nat.lt_succ_self P); have g0 : w7.cell? ⟨P, 0, none⟩ = some v := hbox7.cell 0; have g1 : w7.frozen? ⟨P, 0, none⟩ = false := hbox7.free 0)
  go_end0
  exact ⟨rfl, ⟨_, Buf.store hbox7 hown7⟩, below_putL (hB.trans (hb7.mono (Nat.le_succ P))) (Nat.le_refl _) _⟩

set_option maxRecDepth 20000 in
set_option maxHeartbeats 3200000 in
theorem putTer_any (P : Nat) (v : Value) (bs : List UInt8) (e : El) (w : World) (hb : Buf w P v bs) (he : okE e) (hl : bs.length ≤ 1000000) :
    Calls Tryz.prog 70 #[evV e, .pointer (some ⟨P, 0, none⟩)] w (EndBuf w P (bs ++ putTer e)) := by
  have hPl := hb.box.lt
  have hV : Buf (w.alloc (.cells #[.int .i64 (e.1 : Int), .int .i64 (e.2.1 : Int), .int .i64 (e.2.2 : Int)] 75)) P v bs := hb.alloc _
  have hsz : (w.alloc (.cells #[.int .i64 (e.1 : Int), .int .i64 (e.2.1 : Int), .int .i64 (e.2.2 : Int)] 75)).heap.size = w.heap.size + 1 := by simp
  have hW : IntKind.u8.wrap (e.2.2 : Int) = ((UInt8.ofNat e.2.2).toNat : Int) := by
    have h2 : e.2.2 ≤ 255 := by have := he; unfold okE at this; omega
    rw [UInt8.toNat_ofNat', IntKind.wrap_u8]
    omega
  obtain ⟨b, hbb⟩ : ∃ b, UInt8.ofNat e.2.2 = b := ⟨_, rfl⟩
  unfold putTer
  rw [hbb] at hW ⊢
  have d0 : (w.alloc (.cells #[.int .i64 (e.1 : Int), .int .i64 (e.2.1 : Int), .int .i64 (e.2.2 : Int)] 75)).cell? ⟨P, 0, none⟩ = some v := by rw [hV.box.cell]; rfl
  have f0 : (w.alloc (.cells #[.int .i64 (e.1 : Int), .int .i64 (e.2.1 : Int), .int .i64 (e.2.2 : Int)] 75)).frozen? ⟨P, 0, none⟩ = false := hV.box.free 0
  have hB : Below P w (w.alloc (.cells #[.int .i64 (e.1 : Int), .int .i64 (e.2.1 : Int), .int .i64 (e.2.2 : Int)] 75)) := (Below.refl _ _).alloc (Nat.le_of_lt hPl) _
  unfold evV
  clear hb hbb he
  go_enter Tryz.func70, Tryz.ntmps70
  obtain ⟨W, hWW⟩ : ∃ W, w.alloc (.cells #[.int .i64 (e.1 : Int), .int .i64 (e.2.1 : Int), .int .i64 (e.2.2 : Int)] 75) = W := ⟨_, rfl⟩
  have hbox := Box.made w 75 #[.int .i64 (e.1 : Int), .int .i64 (e.2.1 : Int), .int .i64 (e.2.2 : Int)]
  rw [hWW] at hV hsz d0 f0 hB hbox
  have hPW : P + 1 ≤ W.heap.size := by omega
  clear hsz
  have e1 : W.cell? ⟨w.heap.size, 1, none⟩ = some (.int .i64 (e.2.1 : Int)) := hbox.cell 1
  have e2 : W.cell? ⟨w.heap.size, 2, none⟩ = some (.int .i64 (e.2.2 : Int)) := hbox.cell 2
  go_wp2_with (at_builtin; refine append_one (val := bv) 30 5 (.int .u8 0) 1 Tryz.underlying30 info_u8k rfl (by decide) one_bv W rfl (.tmp 3) (.tmp 7) rfl (P + 1) v bs rfl hV.own b _ rfl rfl (by omega) hPW ?_; intro v7 w7 hown7 hb7; obtain ⟨A7, N7, c7, rfl⟩ := (Arr.of_own hown7).form3; have hbox7 := hV.box.below hb7 (Nat.lt_succ_self P); have g0 : w7.cell? ⟨P, 0, none⟩ = some v := hbox7.cell 0; have g1 : w7.frozen? ⟨P, 0, none⟩ = false := hbox7.free 0)
  go_end0
  exact ⟨rfl, ⟨_, Buf.store hbox7 hown7⟩, below_putL (hB.trans (hb7.mono (Nat.le_succ P))) (Nat.le_refl _) _⟩

set_option maxRecDepth 20000 in
set_option maxHeartbeats 3200000 in
theorem putPrim_any (P : Nat) (v : Value) (bs : List UInt8) (e : El) (w : World) (hb : Buf w P v bs) (he : okE e) (hl : bs.length ≤ 1000000) :
    Calls Tryz.prog 68 #[evV e, .pointer (some ⟨P, 0, none⟩)] w (EndBuf w P (bs ++ putPrim e)) := by
  have hPl := hb.box.lt
  have hV : Buf (w.alloc (.cells #[.int .i64 (e.1 : Int), .int .i64 (e.2.1 : Int), .int .i64 (e.2.2 : Int)] 75)) P v bs := hb.alloc _
  have hsz : (w.alloc (.cells #[.int .i64 (e.1 : Int), .int .i64 (e.2.1 : Int), .int .i64 (e.2.2 : Int)] 75)).heap.size = w.heap.size + 1 := by simp
  have hp : e.1 ≤ 10000041 := he.1
  have hB : Below P w (w.alloc (.cells #[.int .i64 (e.1 : Int), .int .i64 (e.2.1 : Int), .int .i64 (e.2.2 : Int)] 75)) := (Below.refl _ _).alloc (Nat.le_of_lt hPl) _
  have hbox := Box.made w 75 #[.int .i64 (e.1 : Int), .int .i64 (e.2.1 : Int), .int .i64 (e.2.2 : Int)]
  unfold evV putPrim three
  obtain ⟨p, sc, te⟩ := e
  simp only at hp hV hsz hB hbox ⊢
  clear hb he
  by_cases h0 : p = 0
  · subst h0
    rw [if_pos rfl, List.append_nil]
    go_enter Tryz.func68, Tryz.ntmps68
    rw [show ((0 : Nat) : Int) = 0 from rfl] at hV hsz hB hbox ⊢
    obtain ⟨W, hWW⟩ : ∃ W, w.alloc (.cells #[.int .i64 0, .int .i64 (sc : Int), .int .i64 (te : Int)] 75) = W := ⟨_, rfl⟩
    rw [hWW] at hV hsz hB hbox
    have e0 : W.cell? ⟨w.heap.size, 0, none⟩ = some (.int .i64 0) := hbox.cell 0
    clear hsz hbox
    go_wp2
    go_end0
    exact ⟨rfl, ⟨v, hV⟩, hB⟩
  · rw [if_neg h0]
    have t0 : ((p : Int) != 0) = true := by simp; omega
    have w1 : IntKind.u8.wrap ((p : Int) / 65536) = ((UInt8.ofNat (p / 65536)).toNat : Int) := by rw [UInt8.toNat_ofNat', IntKind.wrap_u8]; omega
    have w2 : IntKind.u8.wrap ((p : Int) / 256) = ((UInt8.ofNat (p / 256 % 256)).toNat : Int) := by rw [UInt8.toNat_ofNat', IntKind.wrap_u8]; omega
    have w3 : IntKind.u8.wrap (p : Int) = ((UInt8.ofNat (p % 256)).toNat : Int) := by rw [UInt8.toNat_ofNat', IntKind.wrap_u8]; omega
    rw [List.map_cons, List.map_cons, List.map_cons, List.map_nil]
    obtain ⟨b1, hb1⟩ : ∃ b, UInt8.ofNat (p / 65536) = b := ⟨_, rfl⟩
    obtain ⟨b2, hb2⟩ : ∃ b, UInt8.ofNat (p / 256 % 256) = b := ⟨_, rfl⟩
    obtain ⟨b3, hb3⟩ : ∃ b, UInt8.ofNat (p % 256) = b := ⟨_, rfl⟩
    rw [hb1] at w1 ⊢
    rw [hb2] at w2 ⊢
    rw [hb3] at w3 ⊢
    clear hb1 hb2 hb3 h0
    go_enter Tryz.func68, Tryz.ntmps68
    obtain ⟨W, hWW⟩ : ∃ W, w.alloc (.cells #[.int .i64 (p : Int), .int .i64 (sc : Int), .int .i64 (te : Int)] 75) = W := ⟨_, rfl⟩
    rw [hWW] at hV hsz hB hbox
    have hPW : P + 1 ≤ W.heap.size := by omega
    have e0 : W.cell? ⟨w.heap.size, 0, none⟩ = some (.int .i64 (p : Int)) := hbox.cell 0
    have d0 : W.cell? ⟨P, 0, none⟩ = some v := by rw [hV.box.cell]; rfl
    have hU : Buf (W.alloc (.cells #[bv b1, bv b2, bv b3] 5)) P v bs := hV.alloc _
    have hnew : Arr bv (W.alloc (.cells #[bv b1, bv b2, bv b3] 5)) (W.heap.size + 1) (.slice (some ⟨W.heap.size, 0, none⟩) 3 3) [b1, b2, b3] := Arr.of_box (Box.made W _ _) rfl (Nat.le_refl _) (fun i u hu => by
      match i, hu with
      | 0, hu => simp at hu; subst hu; rfl
      | 1, hu => simp at hu; subst hu; rfl
      | 2, hu => simp at hu; subst hu; rfl
      | i + 3, hu => simp at hu)
    have hPU : P + 1 ≤ (W.alloc (.cells #[bv b1, bv b2, bv b3] 5)).heap.size := by simp; omega
    have hBU : Below P w (W.alloc (.cells #[bv b1, bv b2, bv b3] 5)) := hB.alloc (by omega) _
    have hln : bs.length + [b1, b2, b3].length ≤ 1000000000000 := by simp; omega
    clear hsz hbox
    go_wp2_with (at_builtin; refine append_arr (val := bv) 30 5 (.int .u8 0) 1 Tryz.underlying30 info_u8k rfl (by decide) one_bv (W.alloc (.cells #[bv b1, bv b2, bv b3] 5)) rfl (.tmp 6) (.tmp 18) rfl (P + 1) (W.heap.size + 1) v bs rfl hU.own [b1, b2, b3] _ rfl hnew hln hPU ?_; intro v7 w7 hown7 hb7; obtain ⟨A7, N7, c7, rfl⟩ := (Arr.of_own hown7).form3; have hbox7 := hU.box.below hb7 (Nat.lt_succ_self P); have g0 : w7.cell? ⟨P, 0, none⟩ = some v := hbox7.cell 0; have g1 : w7.frozen? ⟨P, 0, none⟩ = false := hbox7.free 0)
    go_end0
    exact ⟨rfl, ⟨_, Buf.store hbox7 hown7⟩, below_putL (hBU.trans (hb7.mono (Nat.le_succ P))) (Nat.le_refl _) _⟩

theorem zeros_bv (k : Nat) : (List.replicate k (0 : UInt8)).map bv = List.replicate k (.int .u8 0) := by rw [List.map_replicate]; rfl
theorem zeros_len (bs : List UInt8) (z : Nat) : bs.length + z = (bs ++ List.replicate z (0 : UInt8)).length := by simp
theorem elem_snoc (put : El → List UInt8) {els : List El} {k : Nat} {e : El} (h : els[k]? = some e) : (els.take (k + 1)).flatMap put = (els.take k).flatMap put ++ put e := by
  rw [take_next h, List.flatMap_append]
  simp
theorem put_len3 (e : El) : (putPrim e).length ≤ 3 ∧ (putSec e).length ≤ 3 ∧ (putTer e).length ≤ 3 := by
  refine ⟨?_, by simp [putSec], by simp [putTer]⟩
  unfold putPrim
  split
  · simp
  · simp [three]
theorem puts_len {put : El → List UInt8} (hp : ∀ e, (put e).length ≤ 3) : ∀ l : List El, (l.flatMap put).length ≤ 3 * l.length
  | [] => by simp
  | e :: l => by
    have h1 := hp e
    have h2 := puts_len hp l
    rw [List.flatMap_cons, List.length_append, List.length_cons]
    omega

set_option maxRecDepth 20000 in
set_option maxHeartbeats 3200000 in
theorem levelPrim_any (P L : Nat) (v : Value) (bs : List UInt8) (A : Option Addr) (n c : Nat) (els : List El) (w : World) (hb : Buf w P v bs) (hAll : Box w L 72 #[.slice A n c]) (hE : SArr 3 ev w P (.slice A n c) els) (hok : ∀ e ∈ els, okE e) (hLP : L < P) (hl : bs.length + 3 * n ≤ 900000) :
    Calls Tryz.prog 67 #[.int .i64 3, .func (.func 68) #[] #[.pointer (some ⟨P, 0, none⟩)], .pointer (some ⟨L, 0, none⟩), .pointer (some ⟨P, 0, none⟩)] w (EndBuf w P (bs ++ els.flatMap putPrim ++ List.replicate 3 0)) := by
  have HN := Lib.hid hE.len
  have HOk := Lib.hid hok
  have HAll := Lib.hid hAll
  have hPl := hb.box.lt
  have d0 : w.cell? ⟨L, 0, none⟩ = some (.slice A n c) := hAll.cell 0
  clear hAll hok
  go_enter Tryz.func67, Tryz.ntmps67
  go_wp2
  go_loopw [10] (fun iv_ wr => ∃ (k : Nat) (u : Value), k ≤ n ∧ iv_ = .int .i64 (k : Int) ∧ Buf wr P u (bs ++ (els.take k).flatMap putPrim) ∧ Below P w wr) (fun iv_ _ => n - (intOf iv_).toNat)
  case atStart => exact ⟨0, v, by omega, rfl, by simpa using hb, Below.refl _ _⟩
  case round =>
    obtain ⟨k, u, hk, rfl, hB, hb2⟩ := hrel
    have hbs : (bs ++ (els.take k).flatMap putPrim).length ≤ 900000 := by
      have h1 := puts_len (fun e => (put_len3 e).1) (els.take k)
      rw [List.length_take] at h1
      rw [List.length_append]
      omega
    by_cases hlt : k < n
    · have t1 : decide ((k : Int) < (n : Int)) = true := by simp; omega
      have t1' : decide (k < n) = true := by simpa using hlt
      have kz : (k : Int) < (n : Int) := by omega
      obtain ⟨a0, o0, rfl, hA0, hca⟩ := hE.some_ ev_len (by decide) (by omega)
      obtain ⟨e, he⟩ : ∃ e, els[k]? = some e := ⟨_, List.getElem?_eq_getElem (by have := HN.out; omega)⟩
      have c0 : wr.cell? ⟨a0, o0 + k * 3, none⟩ = some (.int .i64 (e.1 : Int)) := (hb2.cell (p := ⟨a0, o0 + k * 3, none⟩) hA0).trans (hca k e he 0 _ rfl)
      have c1 : wr.cell? ⟨a0, o0 + k * 3 + 1, none⟩ = some (.int .i64 (e.2.1 : Int)) := (hb2.cell (p := ⟨a0, o0 + k * 3 + 1, none⟩) hA0).trans (hca k e he 1 _ rfl)
      have c2 : wr.cell? ⟨a0, o0 + k * 3 + 2, none⟩ = some (.int .i64 (e.2.2 : Int)) := (hb2.cell (p := ⟨a0, o0 + k * 3 + 2, none⟩) hA0).trans (hca k e he 2 _ rfl)
      have hBV := hB.alloc (.cells #[.int .i64 (e.1 : Int), .int .i64 (e.2.1 : Int), .int .i64 (e.2.2 : Int)] 75)
      have hbV := hb2.alloc (by have := hb2.size; omega) (.cells #[.int .i64 (e.1 : Int), .int .i64 (e.2.1 : Int), .int .i64 (e.2.2 : Int)] 75)
      have hbox := Box.made wr 75 #[.int .i64 (e.1 : Int), .int .i64 (e.2.1 : Int), .int .i64 (e.2.2 : Int)]
      have HC := Lib.hid (putPrim_any P u (bs ++ (els.take k).flatMap putPrim) e _ hBV (HOk.out e (List.mem_of_getElem? he)) (by omega))
      rw [List.append_assoc, ← elem_snoc putPrim he] at HC
      obtain ⟨V, hV⟩ : ∃ V, wr.alloc (.cells #[.int .i64 (e.1 : Int), .int .i64 (e.2.1 : Int), .int .i64 (e.2.2 : Int)] 75) = V := ⟨_, rfl⟩
      rw [hV] at hBV hbV hbox HC
      have e0 : V.cell? ⟨wr.heap.size, 0, none⟩ = some (.int .i64 (e.1 : Int)) := hbox.cell 0
      have e1 : V.cell? ⟨wr.heap.size, 1, none⟩ = some (.int .i64 (e.2.1 : Int)) := hbox.cell 1
      have e2 : V.cell? ⟨wr.heap.size, 2, none⟩ = some (.int .i64 (e.2.2 : Int)) := hbox.cell 2
      unfold evV at HC
      clear hca he hbs hbox
      go_wp2_with fail
      refine HC.out.mono ?_
      rintro en w5 ⟨rfl, ⟨u5, hB5⟩, k5⟩
      go_wp2
      go_roundw
      case rel => exact ⟨k + 1, u5, by omega, by go_num, hB5, hbV.trans k5⟩
      case measure => simp [intOf]; omega
    · obtain rfl : k = n := by omega
      have t1 : decide ((k : Int) < (k : Int)) = false := by simp
      have t1' : decide (k < k) = false := by simp
      have htk : els.take k = els := List.take_of_length_le (by rw [HN.out]; exact Nat.le_refl _)
      rw [htk] at hB hbs
      obtain ⟨i0, hi, hz0, hz1, hz2⟩ := info_parts info_u8k
      have hPw : P + 1 ≤ wr.heap.size := hB.box.lt
      obtain ⟨v7, w7, hr, hown7, hg7⟩ := run_append_zeros_own (P := Tryz.prog) wr (P + 1) 30 3 30 5 i0 (.int .u8 0) 1 .i64 Tryz.underlying30 (by kernel_rfl) hi hz0 hz1 rfl hz2 u _ _ hB.own 3 (by decide) (List.replicate 3 (.int .u8 0)) (by kernel_rfl) rfl (fun x hx => by rw [List.eq_of_mem_replicate hx]; rfl) (by omega) (by decide) hPw
      rw [← zeros_bv, ← List.map_append] at hown7
      have hb7 := below_own hB.own hPw hg7
      rw [zeros_len] at hown7
      obtain ⟨A7, N7, c7, rfl⟩ := (Arr.of_own hown7).form3
      have hbox7 := hB.box.below hb7 (Nat.lt_succ_self P)
      have g0 : w7.cell? ⟨P, 0, none⟩ = some u := hbox7.cell 0
      have g1 : w7.frozen? ⟨P, 0, none⟩ = false := hbox7.free 0
      have d1 : wr.cell? ⟨P, 0, none⟩ = some u := hB.box.cell 0
      clear hbs htk
      go_wp2_with (at_builtin; refine Lib.wpList_append_run _ rfl (.tmp 18) (.tmp 19) _ _ rfl _ _ rfl rfl _ _ hr ?_)
      go_end0
      exact ⟨rfl, ⟨_, Buf.store hbox7 hown7⟩, below_putL (hb2.trans (hb7.mono (Nat.le_succ P))) (Nat.le_refl _) _⟩

set_option maxRecDepth 20000 in
set_option maxHeartbeats 3200000 in
theorem levelSec_any (P L : Nat) (v : Value) (bs : List UInt8) (A : Option Addr) (n c : Nat) (els : List El) (w : World) (hb : Buf w P v bs) (hAll : Box w L 72 #[.slice A n c]) (hE : SArr 3 ev w P (.slice A n c) els) (hok : ∀ e ∈ els, okE e) (hLP : L < P) (hl : bs.length + 3 * n ≤ 900000) :
    Calls Tryz.prog 67 #[.int .i64 1, .func (.func 69) #[] #[.pointer (some ⟨P, 0, none⟩)], .pointer (some ⟨L, 0, none⟩), .pointer (some ⟨P, 0, none⟩)] w (EndBuf w P (bs ++ els.flatMap putSec ++ List.replicate 1 0)) := by
  have HN := Lib.hid hE.len
  have HOk := Lib.hid hok
  have HAll := Lib.hid hAll
  have hPl := hb.box.lt
  have d0 : w.cell? ⟨L, 0, none⟩ = some (.slice A n c) := hAll.cell 0
  clear hAll hok
  go_enter Tryz.func67, Tryz.ntmps67
  go_wp2
  go_loopw [10] (fun iv_ wr => ∃ (k : Nat) (u : Value), k ≤ n ∧ iv_ = .int .i64 (k : Int) ∧ Buf wr P u (bs ++ (els.take k).flatMap putSec) ∧ Below P w wr) (fun iv_ _ => n - (intOf iv_).toNat)
  case atStart => exact ⟨0, v, by omega, rfl, by simpa using hb, Below.refl _ _⟩
  case round =>
    obtain ⟨k, u, hk, rfl, hB, hb2⟩ := hrel
    have hbs : (bs ++ (els.take k).flatMap putSec).length ≤ 900000 := by
      have h1 := puts_len (fun e => (put_len3 e).2.1) (els.take k)
      rw [List.length_take] at h1
      rw [List.length_append]
      omega
    by_cases hlt : k < n
    · have t1 : decide ((k : Int) < (n : Int)) = true := by simp; omega
      have t1' : decide (k < n) = true := by simpa using hlt
      have kz : (k : Int) < (n : Int) := by omega
      obtain ⟨a0, o0, rfl, hA0, hca⟩ := hE.some_ ev_len (by decide) (by omega)
      obtain ⟨e, he⟩ : ∃ e, els[k]? = some e := ⟨_, List.getElem?_eq_getElem (by have := HN.out; omega)⟩
      have c0 : wr.cell? ⟨a0, o0 + k * 3, none⟩ = some (.int .i64 (e.1 : Int)) := (hb2.cell (p := ⟨a0, o0 + k * 3, none⟩) hA0).trans (hca k e he 0 _ rfl)
      have c1 : wr.cell? ⟨a0, o0 + k * 3 + 1, none⟩ = some (.int .i64 (e.2.1 : Int)) := (hb2.cell (p := ⟨a0, o0 + k * 3 + 1, none⟩) hA0).trans (hca k e he 1 _ rfl)
      have c2 : wr.cell? ⟨a0, o0 + k * 3 + 2, none⟩ = some (.int .i64 (e.2.2 : Int)) := (hb2.cell (p := ⟨a0, o0 + k * 3 + 2, none⟩) hA0).trans (hca k e he 2 _ rfl)
      have hBV := hB.alloc (.cells #[.int .i64 (e.1 : Int), .int .i64 (e.2.1 : Int), .int .i64 (e.2.2 : Int)] 75)
      have hbV := hb2.alloc (by have := hb2.size; omega) (.cells #[.int .i64 (e.1 : Int), .int .i64 (e.2.1 : Int), .int .i64 (e.2.2 : Int)] 75)
      have hbox := Box.made wr 75 #[.int .i64 (e.1 : Int), .int .i64 (e.2.1 : Int), .int .i64 (e.2.2 : Int)]
      have HC := Lib.hid (putSec_any P u (bs ++ (els.take k).flatMap putSec) e _ hBV (HOk.out e (List.mem_of_getElem? he)) (by omega))
      rw [List.append_assoc, ← elem_snoc putSec he] at HC
      obtain ⟨V, hV⟩ : ∃ V, wr.alloc (.cells #[.int .i64 (e.1 : Int), .int .i64 (e.2.1 : Int), .int .i64 (e.2.2 : Int)] 75) = V := ⟨_, rfl⟩
      rw [hV] at hBV hbV hbox HC
      have e0 : V.cell? ⟨wr.heap.size, 0, none⟩ = some (.int .i64 (e.1 : Int)) := hbox.cell 0
      have e1 : V.cell? ⟨wr.heap.size, 1, none⟩ = some (.int .i64 (e.2.1 : Int)) := hbox.cell 1
      have e2 : V.cell? ⟨wr.heap.size, 2, none⟩ = some (.int .i64 (e.2.2 : Int)) := hbox.cell 2
      unfold evV at HC
      clear hca he hbs hbox
      go_wp2_with fail
      refine HC.out.mono ?_
      rintro en w5 ⟨rfl, ⟨u5, hB5⟩, k5⟩
      go_wp2
      go_roundw
      case rel => exact ⟨k + 1, u5, by omega, by go_num, hB5, hbV.trans k5⟩
      case measure => simp [intOf]; omega
    · obtain rfl : k = n := by omega
      have t1 : decide ((k : Int) < (k : Int)) = false := by simp
      have t1' : decide (k < k) = false := by simp
      have htk : els.take k = els := List.take_of_length_le (by rw [HN.out]; exact Nat.le_refl _)
      rw [htk] at hB hbs
      obtain ⟨i0, hi, hz0, hz1, hz2⟩ := info_parts info_u8k
      have hPw : P + 1 ≤ wr.heap.size := hB.box.lt
      obtain ⟨v7, w7, hr, hown7, hg7⟩ := run_append_zeros_own (P := Tryz.prog) wr (P + 1) 30 3 30 5 i0 (.int .u8 0) 1 .i64 Tryz.underlying30 (by kernel_rfl) hi hz0 hz1 rfl hz2 u _ _ hB.own 1 (by decide) (List.replicate 1 (.int .u8 0)) (by kernel_rfl) rfl (fun x hx => by rw [List.eq_of_mem_replicate hx]; rfl) (by omega) (by decide) hPw
      rw [← zeros_bv, ← List.map_append] at hown7
      have hb7 := below_own hB.own hPw hg7
      rw [zeros_len] at hown7
      obtain ⟨A7, N7, c7, rfl⟩ := (Arr.of_own hown7).form3
      have hbox7 := hB.box.below hb7 (Nat.lt_succ_self P)
      have g0 : w7.cell? ⟨P, 0, none⟩ = some u := hbox7.cell 0
      have g1 : w7.frozen? ⟨P, 0, none⟩ = false := hbox7.free 0
      have d1 : wr.cell? ⟨P, 0, none⟩ = some u := hB.box.cell 0
      clear hbs htk
      go_wp2_with (at_builtin; refine Lib.wpList_append_run _ rfl (.tmp 18) (.tmp 19) _ _ rfl _ _ rfl rfl _ _ hr ?_)
      go_end0
      exact ⟨rfl, ⟨_, Buf.store hbox7 hown7⟩, below_putL (hb2.trans (hb7.mono (Nat.le_succ P))) (Nat.le_refl _) _⟩

set_option maxRecDepth 20000 in
set_option maxHeartbeats 3200000 in
theorem levelTer_any (P L : Nat) (v : Value) (bs : List UInt8) (A : Option Addr) (n c : Nat) (els : List El) (w : World) (hb : Buf w P v bs) (hAll : Box w L 72 #[.slice A n c]) (hE : SArr 3 ev w P (.slice A n c) els) (hok : ∀ e ∈ els, okE e) (hLP : L < P) (hl : bs.length + 3 * n ≤ 900000) :
    Calls Tryz.prog 67 #[.int .i64 1, .func (.func 70) #[] #[.pointer (some ⟨P, 0, none⟩)], .pointer (some ⟨L, 0, none⟩), .pointer (some ⟨P, 0, none⟩)] w (EndBuf w P (bs ++ els.flatMap putTer ++ List.replicate 1 0)) := by
  have HN := Lib.hid hE.len
  have HOk := Lib.hid hok
  have HAll := Lib.hid hAll
  have hPl := hb.box.lt
  have d0 : w.cell? ⟨L, 0, none⟩ = some (.slice A n c) := hAll.cell 0
  clear hAll hok
  go_enter Tryz.func67, Tryz.ntmps67
  go_wp2
  go_loopw [10] (fun iv_ wr => ∃ (k : Nat) (u : Value), k ≤ n ∧ iv_ = .int .i64 (k : Int) ∧ Buf wr P u (bs ++ (els.take k).flatMap putTer) ∧ Below P w wr) (fun iv_ _ => n - (intOf iv_).toNat)
  case atStart => exact ⟨0, v, by omega, rfl, by simpa using hb, Below.refl _ _⟩
  case round =>
    obtain ⟨k, u, hk, rfl, hB, hb2⟩ := hrel
    have hbs : (bs ++ (els.take k).flatMap putTer).length ≤ 900000 := by
      have h1 := puts_len (fun e => (put_len3 e).2.2) (els.take k)
      rw [List.length_take] at h1
      rw [List.length_append]
      omega
    by_cases hlt : k < n
    · have t1 : decide ((k : Int) < (n : Int)) = true := by simp; omega
      have t1' : decide (k < n) = true := by simpa using hlt
      have kz : (k : Int) < (n : Int) := by omega
      obtain ⟨a0, o0, rfl, hA0, hca⟩ := hE.some_ ev_len (by decide) (by omega)
      obtain ⟨e, he⟩ : ∃ e, els[k]? = some e := ⟨_, List.getElem?_eq_getElem (by have := HN.out; omega)⟩
      have c0 : wr.cell? ⟨a0, o0 + k * 3, none⟩ = some (.int .i64 (e.1 : Int)) := (hb2.cell (p := ⟨a0, o0 + k * 3, none⟩) hA0).trans (hca k e he 0 _ rfl)
      have c1 : wr.cell? ⟨a0, o0 + k * 3 + 1, none⟩ = some (.int .i64 (e.2.1 : Int)) := (hb2.cell (p := ⟨a0, o0 + k * 3 + 1, none⟩) hA0).trans (hca k e he 1 _ rfl)
      have c2 : wr.cell? ⟨a0, o0 + k * 3 + 2, none⟩ = some (.int .i64 (e.2.2 : Int)) := (hb2.cell (p := ⟨a0, o0 + k * 3 + 2, none⟩) hA0).trans (hca k e he 2 _ rfl)
      have hBV := hB.alloc (.cells #[.int .i64 (e.1 : Int), .int .i64 (e.2.1 : Int), .int .i64 (e.2.2 : Int)] 75)
      have hbV := hb2.alloc (by have := hb2.size; omega) (.cells #[.int .i64 (e.1 : Int), .int .i64 (e.2.1 : Int), .int .i64 (e.2.2 : Int)] 75)
      have hbox := Box.made wr 75 #[.int .i64 (e.1 : Int), .int .i64 (e.2.1 : Int), .int .i64 (e.2.2 : Int)]
      have HC := Lib.hid (putTer_any P u (bs ++ (els.take k).flatMap putTer) e _ hBV (HOk.out e (List.mem_of_getElem? he)) (by omega))
      rw [List.append_assoc, ← elem_snoc putTer he] at HC
      obtain ⟨V, hV⟩ : ∃ V, wr.alloc (.cells #[.int .i64 (e.1 : Int), .int .i64 (e.2.1 : Int), .int .i64 (e.2.2 : Int)] 75) = V := ⟨_, rfl⟩
      rw [hV] at hBV hbV hbox HC
      have e0 : V.cell? ⟨wr.heap.size, 0, none⟩ = some (.int .i64 (e.1 : Int)) := hbox.cell 0
      have e1 : V.cell? ⟨wr.heap.size, 1, none⟩ = some (.int .i64 (e.2.1 : Int)) := hbox.cell 1
      have e2 : V.cell? ⟨wr.heap.size, 2, none⟩ = some (.int .i64 (e.2.2 : Int)) := hbox.cell 2
      unfold evV at HC
      clear hca he hbs hbox
      go_wp2_with fail
      refine HC.out.mono ?_
      rintro en w5 ⟨rfl, ⟨u5, hB5⟩, k5⟩
      go_wp2
      go_roundw
      case rel => exact ⟨k + 1, u5, by omega, by go_num, hB5, hbV.trans k5⟩
      case measure => simp [intOf]; omega
    · obtain rfl : k = n := by omega
      have t1 : decide ((k : Int) < (k : Int)) = false := by simp
      have t1' : decide (k < k) = false := by simp
      have htk : els.take k = els := List.take_of_length_le (by rw [HN.out]; exact Nat.le_refl _)
      rw [htk] at hB hbs
      obtain ⟨i0, hi, hz0, hz1, hz2⟩ := info_parts info_u8k
      have hPw : P + 1 ≤ wr.heap.size := hB.box.lt
      obtain ⟨v7, w7, hr, hown7, hg7⟩ := run_append_zeros_own (P := Tryz.prog) wr (P + 1) 30 3 30 5 i0 (.int .u8 0) 1 .i64 Tryz.underlying30 (by kernel_rfl) hi hz0 hz1 rfl hz2 u _ _ hB.own 1 (by decide) (List.replicate 1 (.int .u8 0)) (by kernel_rfl) rfl (fun x hx => by rw [List.eq_of_mem_replicate hx]; rfl) (by omega) (by decide) hPw
      rw [← zeros_bv, ← List.map_append] at hown7
      have hb7 := below_own hB.own hPw hg7
      rw [zeros_len] at hown7
      obtain ⟨A7, N7, c7, rfl⟩ := (Arr.of_own hown7).form3
      have hbox7 := hB.box.below hb7 (Nat.lt_succ_self P)
      have g0 : w7.cell? ⟨P, 0, none⟩ = some u := hbox7.cell 0
      have g1 : w7.frozen? ⟨P, 0, none⟩ = false := hbox7.free 0
      have d1 : wr.cell? ⟨P, 0, none⟩ = some u := hB.box.cell 0
      clear hbs htk
      go_wp2_with (at_builtin; refine Lib.wpList_append_run _ rfl (.tmp 18) (.tmp 19) _ _ rfl _ _ rfl rfl _ _ hr ?_)
      go_end0
      exact ⟨rfl, ⟨_, Buf.store hbox7 hown7⟩, below_putL (hb2.trans (hb7.mono (Nat.le_succ P))) (Nat.le_refl _) _⟩

end Go.Proofs.YtafnjbmeponobaaGreatDoor
