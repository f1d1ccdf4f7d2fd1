/-
  The program's own iterator: each.
-/
import Derived.Test.YtbnchnbblchmnaaGreatDoorPkAN
import Derived.Test.YtbnchnbblchmnaaGreatDoorPkAK
import Derived.Test.YtbnchnbblchmnaaGreatDoorPkAW
namespace Go.Proofs.YtbnchnbblchmnaaGreatDoor
open Go.RowKit Go.Shelf Go.Lib
attribute [local go_sem] Oper.semAt_some

def markOf (D : Nat) : Deferred := { target := .collected D, args := #[] }
/-- A function that has run loops over iterators one after another leaves. -/
theorem leaves_marks {F : Fence} {n : Nat} {P : Program} {fn : Func} {tmps : Array Value} {R : Ending → World → Prop} (Ok : Nat → Prop) (Q : World → Prop)
    (hQ : ∀ w D, Ok D → Q w → w.heap[D]? = some (.deferred (some [])) → Q (w.putObj D (.deferred none)))
    (hend : ∀ w, Q w → LeavesInM F n P fn tmps R [] .returning w) :
    ∀ (Ds : List Nat) (w : World), Ds.Nodup → (∀ D ∈ Ds, Ok D ∧ w.heap[D]? = some (.deferred (some []))) → Q w → LeavesInM F n P fn tmps R (Ds.map markOf) .returning w
  | [], w, _, _, h => hend w h
  | D :: Ds, w, hn, hD, h => by
    obtain ⟨h0, h1⟩ := hD D List.mem_cons_self
    obtain ⟨hn1, hn2⟩ := List.nodup_cons.1 hn
    refine ⟨by simp, .inl ⟨D, _, rfl, run_takeDeferred h1, ?_⟩⟩
    exact leaves_marks Ok Q hQ hend Ds _ hn2 (fun E hE => ⟨(hD E (List.mem_cons_of_mem _ hE)).1, (World.putObj_heap_other (fun e => hn1 (by rw [← e]; exact hE))).trans (hD E (List.mem_cons_of_mem _ hE)).2⟩) (hQ w D h0 h h1)

theorem round_any {m m' : Nat} {P : Program} {l l' : Nat} {f : FuncId} {tmps : Array Value} {assign body : Code} {w : World} {R : Ending → World → Prop}
    (h : RoundIn Fence.wide m P l f tmps assign body w R) : RoundIn (Fence.wide.inRound l') m' P l f tmps assign body w R := ⟨h.1, fun c cs _ => h.2 c cs (room_wide _)⟩
theorem fieldsSeq_any (x : List UInt8) (w : World) : Calls Tryz.prog 65 #[.string (str x)] w fun e w' => e = .returned (.func (.func 105) #[] #[.pointer (some ⟨w.heap.size, 0, none⟩)]) ∧ w' = w.alloc (.cells #[.string (str x)] 9) := by
  go_enter Tryz.func65, Tryz.ntmps65
  go_wp2
  go_ret
  exact ⟨rfl, rfl⟩
theorem each_any (A : Option Addr) (n c : Nat) (G : Int) (w : World) : Calls Tryz.prog 34 #[.slice A n c, .int .i64 G] w fun e w' => e = .returned (.func (.func 64) #[] #[.pointer (some ⟨w.heap.size, 0, none⟩), .pointer (some ⟨w.heap.size + 1, 0, none⟩)]) ∧ w' = (w.alloc (.cells #[.slice A n c] 25)).alloc (.cells #[.int .i64 G] 3) := by
  go_enter Tryz.func34, Tryz.ntmps34
  go_wp2
  go_ret
  exact ⟨rfl, rfl⟩

/-- A word as the model holds it. -/
def wvE (x : WordL) : Value := .agg #[.string (str x.1), .int .i64 (x.2 : Int)]


/-- What stands between two steps of the iterator: out has come; the next position is nx; ks are its own blocks, Ds those of its loops. -/
structure EachI (lo n1 Bx b1 b2 l : Nat) (w0 : World) (J : Option Nat → List WordL → World → Prop) (ks Ds : List Nat) (out : List WordL) (nx : Nat) (g : Option Nat) (wr : World) : Prop where
  j : J g out wr
  y : Boxed wr b1 102 (.func (.yield l) #[] #[])
  nxt : Boxed wr b2 3 (.int .i64 (nx : Int))
  gk : ∀ k ∈ ks, g ≠ some k
  lt : ∀ k ∈ ks, k < wr.heap.size
  old : ∀ k, k < n1 → k ≠ Bx → wr.heap[k]? = w0.heap[k]?
  ds : ∀ D ∈ Ds, lo ≤ D ∧ wr.heap[D]? = some (.deferred (some []))

section
variable {lo n1 Bx b1 b2 l nx : Nat} {w0 wr wr' : World} {J : Option Nat → List WordL → World → Prop} {ks Ds : List Nat} {out : List WordL} {g : Option Nat}
/-- Every block but those of the list R lies as it lay. -/
theorem EachI.turn (hJa : ∀ g s A B, J g s A → Apart lo g A B → J g s B) (h : EachI lo n1 Bx b1 b2 l w0 J ks Ds out nx g wr) (hap : Apart lo g wr wr') (R : Nat → Prop) (hR : ∀ k, k < wr.heap.size → ¬ R k → wr'.heap[k]? = wr.heap[k]?)
    (h1 : ¬ R b1) (h2 : ¬ R b2) (h3 : ∀ k, k < n1 → k ≠ Bx → k < wr.heap.size ∧ ¬ R k) (h4 : ∀ D ∈ Ds, ¬ R D) : EachI lo n1 Bx b1 b2 l w0 J ks Ds out nx g wr' where
  j := hJa _ _ _ _ h.j hap
  y := (hR _ h.y.lt h1).trans h.y
  nxt := (hR _ h.nxt.lt h2).trans h.nxt
  gk := h.gk
  lt := fun k hk => Nat.lt_of_lt_of_le (h.lt k hk) hap.size
  old := fun k hk hx => (hR k (h3 k hk hx).1 (h3 k hk hx).2).trans (h.old k hk hx)
  ds := fun D hD => ⟨(h.ds D hD).1, (hR D (Array.getElem?_eq_some_iff.1 (h.ds D hD).2).1 (h4 D hD)).trans (h.ds D hD).2⟩
theorem EachI.below (hJa : ∀ g s A B, J g s A → Apart lo g A B → J g s B) (h : EachI lo n1 Bx b1 b2 l w0 J ks Ds out nx g wr) (hs : n1 ≤ wr.heap.size) (hb : Below wr.heap.size wr wr') : EachI lo n1 Bx b1 b2 l w0 J ks Ds out nx g wr' :=
  h.turn hJa (Apart.of_below hb) (fun _ => False) (fun k hk _ => hb.block k hk) (by simp) (by simp) (fun k hk _ => ⟨by omega, by simp⟩) (by simp)
/-- The next position is stored. -/
theorem EachI.store (hJa : ∀ g s A B, J g s A → Apart lo g A B → J g s B) (h : EachI lo n1 Bx b1 b2 l w0 J ks Ds out nx g wr) (hlo : lo ≤ b2) (h12 : b1 ≠ b2) (hb2 : b2 ∈ ks) (hn : n1 ≤ b2) (nx' : Nat) : EachI lo n1 Bx b1 b2 l w0 J ks Ds out nx' g (wr.setCell ⟨b2, 0, none⟩ (.int .i64 (nx' : Int))) where
  j := hJa _ _ _ _ h.j (Apart.setCell wr b2 _ hlo (h.gk b2 hb2))
  y := h.y.other h12 _
  nxt := h.nxt.set _
  gk := h.gk
  lt := fun k hk => Nat.lt_of_lt_of_le (h.lt k hk) (Apart.setCell (g := g) wr b2 _ hlo (h.gk b2 hb2)).size
  old := fun k hk hx => (Below.heap_setCell wr ⟨b2, 0, none⟩ _ k (by show k ≠ b2; omega)).trans (h.old k hk hx)
  ds := fun D hD => by
    obtain ⟨h1, h2⟩ := h.ds D hD
    refine ⟨h1, (Below.heap_setCell wr ⟨b2, 0, none⟩ _ D ?_).trans h2⟩
    intro e
    have e' : D = b2 := e
    subst e'
    have h5 := h.nxt
    unfold Boxed at h5
    rw [h5] at h2
    cases h2
/-- A round of the caller's. -/
theorem EachI.round {g' : Option Nat} {x : WordL} (h : EachI lo n1 Bx b1 b2 l w0 J ks Ds out nx g wr) (hJc : ∀ g s A, J g s A → ∀ k, g = some k → ∃ o, A.heap[k]? = some o ∧ o.isCells = true) (hJ : J g' (out ++ [x]) wr')
    (hR : RoundC lo (fun k => k < n1 ∧ k ≠ Bx) g g' wr wr') (hs : n1 ≤ wr.heap.size) (hks : ∀ k ∈ ks, lo ≤ k) (hb1 : b1 ∈ ks) (hb2 : b2 ∈ ks) : EachI lo n1 Bx b1 b2 l w0 J ks Ds (out ++ [x]) nx g' wr' where
  j := hJ
  y := hR.cells (.inr ⟨hks _ hb1, h.gk _ hb1⟩) h.y
  nxt := hR.cells (.inr ⟨hks _ hb2, h.gk _ hb2⟩) h.nxt
  gk := fun k hk e => by
    rcases hR.own with e2 | ⟨r, e2, hr⟩
    · exact h.gk k hk (e2.symm.trans e)
    · have := h.lt k hk
      have : r = k := by rw [e2] at e; exact Option.some.inj e
      omega
  lt := fun k hk => Nat.lt_of_lt_of_le (h.lt k hk) hR.size
  old := fun k hk hx => (hR.block k (by omega) (.inl ⟨hk, hx⟩)).trans (h.old k hk hx)
  ds := fun D hD => by
    obtain ⟨h1, h2⟩ := h.ds D hD
    refine ⟨h1, (hR.block D (Array.getElem?_eq_some_iff.1 h2).1 (.inr ⟨h1, fun e => ?_⟩)).trans h2⟩
    obtain ⟨o, h3, h4⟩ := hJc _ _ _ h.j D e
    rw [h2] at h3; cases h3; cases h4
end

theorem begin_step (G : Nat) (out : List WordL) (ts : List (List UInt8)) : beginOf G (out ++ ts.zipIdx (beginOf G out)) = if ts = [] then beginOf G out else beginOf G out + ts.length + G := by
  split
  · rename_i h
    subst h
    simp
  · rename_i h
    obtain ⟨t, x, rfl⟩ : ∃ t x, ts = t ++ [x] := ⟨ts.dropLast, ts.getLast h, (List.dropLast_concat_getLast h).symm⟩
    rw [List.zipIdx_append, ← List.append_assoc]
    generalize beginOf G out = b
    unfold beginOf
    simp
    omega
theorem begin_most (G : Nat) (ls : List (List UInt8)) : (∀ s ∈ ls, s.length ≤ 5000) → beginOf G (zoneP G ls) ≤ ls.length * (240001 + G) := by
  refine list_snoc (fun l => (∀ s ∈ l, s.length ≤ 5000) → beginOf G (zoneP G l) ≤ l.length * (240001 + G)) (fun _ => by show beginOf G [] ≤ _; unfold beginOf; simp) (fun l s ih h => ?_) ls
  have h1 := ih fun x hx => h x (List.mem_append_left _ hx)
  have h2 := texts_len s
  have h3 := h s (List.mem_append_right _ (List.mem_singleton.2 rfl))
  rw [zone_snoc, begin_step, List.length_append, List.length_singleton, Nat.add_mul, Nat.one_mul]
  split <;> omega
theorem zone_longer (G : Nat) (a b : List (List UInt8)) : (zoneP G a).length ≤ (zoneP G (a ++ b)).length := by
  refine list_snoc (fun b => (zoneP G a).length ≤ (zoneP G (a ++ b)).length) (by simp) (fun l x ih => ?_) b
  rw [← List.append_assoc, zone_snoc, List.length_append]
  omega
theorem zone_next {G i : Nat} {ls : List (List UInt8)} {s : List UInt8} (h : ls[i]? = some s) : zoneP G (ls.take (i + 1)) = zoneP G (ls.take i) ++ (textsB s).zipIdx (beginOf G (zoneP G (ls.take i))) := by
  rw [take_next h, zone_snoc]
theorem idx_snoc (ts : List (List UInt8)) (b : Nat) (x : List UInt8) : (ts ++ [x]).zipIdx b = ts.zipIdx b ++ [(x, b + ts.length)] := by
  rw [List.zipIdx_append]; rfl

/-- What the loop over the strings knows. -/
def EachR (lo n1 Bx b1 b2 l m G : Nat) (w0 : World) (J : Option Nat → List WordL → World → Prop) (ls : List (List UInt8)) (i : Nat) (Ds : List Nat) (wr : World) : Prop :=
  ∃ g, i ≤ m ∧ Ds.Nodup ∧ n1 + 2 ≤ wr.heap.size ∧ Hid (EachI lo n1 Bx b1 b2 l w0 J [b1, b2] Ds (zoneP G (ls.take i)) (beginOf G (zoneP G (ls.take i))) g wr)
def EachInv (l Bl Bg b1 b2 : Nat) (sl : Value) (m : Nat) (R : Nat → List Nat → World → Prop) (a' : Act) (wr : World) : Prop :=
  ∃ (u6 u7 u8 u12 u13 u14 u15 u16 u17 u18 u19 u20 u21 u22 u23 u24 u25 u26 u27 u28 u29 u30 u31 u32 u33 u34 u11 : Value) (dl : List Deferred), (∃ (i : Nat) (Ds : List Nat), u11 = .int .i64 (i : Int) ∧ dl = Ds.map markOf ∧ R i Ds wr) ∧
    a' = { tmps := #[.func (.yield l) #[] #[], .pointer (some ⟨Bl, 0, none⟩), .pointer (some ⟨Bg, 0, none⟩), .pointer (some ⟨b1, 0, none⟩), .pointer (some ⟨b2, 0, none⟩), undef, u6, u7, u8, sl, .int .i64 (m : Int), u11, u12, u13, u14, u15, u16, u17, u18, u19, u20, u21, u22, u23, u24, u25, u26, u27, u28, u29, u30, u31, u32, u33, u34], defers := dl }

set_option maxRecDepth 100000 in
set_option maxHeartbeats 8000000 in
theorem each_seq (n : Nat) (hn : 5 ≤ n) (ls : List (List UInt8)) (G : Nat) (A : Option Addr) (m c : Nat) (n0 Bx Bl Bg : Nat) (w00 w0 : World) (hn0 : n0 = w00.heap.size) (hS : Ready10 w00) (hk0 : Below n0 w00 w0) (hBx : n0 ≤ Bx)
    (hA : Arr sv w0 w0.heap.size (.slice A m c) ls) (hAx : 0 < m → ∀ a, A = some a → a.block ≠ Bx) (hl : w0.cell? ⟨Bl, 0, none⟩ = some (.slice A m c)) (hg : w0.cell? ⟨Bg, 0, none⟩ = some (.int .i64 (G : Int))) (hBl : Bl ≠ Bx) (hBg : Bg ≠ Bx)
    (hG : G ≤ 1000) (hm : m ≤ 1000) (hs : ∀ s ∈ ls, s.length ≤ 5000) :
    SeqC Fence.wide n Tryz.prog 64 #[.pointer (some ⟨Bl, 0, none⟩), .pointer (some ⟨Bg, 0, none⟩)] (fun x : WordL => #[wvE x]) (fun k => k < w0.heap.size ∧ k ≠ Bx) (fun xs => xs = zoneP G ls) (zoneP G ls).length w0 := by
  intro l J g0 W hW hJc hJa hY h0
  have hWs := hW.size
  have hlW : W.cell? ⟨Bl, 0, none⟩ = some (.slice A m c) := (hW.cell (p := ⟨Bl, 0, none⟩) (by obtain ⟨o, h1, _⟩ := cell_blockT hl; exact (Array.getElem?_eq_some_iff.1 h1).1)).trans hl
  have hl1 : ((W.alloc (.cells #[.func (.yield l) #[] #[]] 102)).alloc (.cells #[.int .i64 0] 3)).cell? ⟨Bl, 0, none⟩ = some (.slice A m c) := by
    obtain ⟨o, h1, _⟩ := cell_blockT hlW
    have h2 := (Array.getElem?_eq_some_iff.1 h1).1
    have h3 : Bl < W.heap.size := h2
    rw [cell_same (Below.heap_alloc _ _ _ (by simp; omega)), cell_same (Below.heap_alloc _ _ _ h3)]
    exact hlW
  have hlen : ls.length = m := hA.len
  have HR0 : ∀ wr : World, (∀ k, k < w0.heap.size → k ≠ Bx → wr.heap[k]? = w0.heap[k]?) → Ready10 wr := fun wr h => hS.of_cells fun k o hk _ => by
    have h1 := (Array.getElem?_eq_some_iff.1 hk).1
    exact (h k (by have := hk0.size; omega) (by omega)).trans ((hk0.block k (by omega)).trans hk)
  have hI0 : EachI W.heap.size w0.heap.size Bx W.heap.size (W.heap.size + 1) l w0 J [W.heap.size, W.heap.size + 1] [] [] 0 g0 ((W.alloc (.cells #[.func (.yield l) #[] #[]] 102)).alloc (.cells #[.int .i64 0] 3)) := by
    have hap : Apart W.heap.size g0 W ((W.alloc (.cells #[.func (.yield l) #[] #[]] 102)).alloc (.cells #[.int .i64 0] 3)) := (Apart.alloc _ _ _ _).trans (Apart.alloc _ _ _ _)
    have hg0 : ∀ k, g0 = some k → k < W.heap.size := fun k e => by
      obtain ⟨o, h1, _⟩ := hJc _ _ _ h0 k e
      exact (Array.getElem?_eq_some_iff.1 h1).1
    have hB2 := Boxed.new (W.alloc (.cells #[.func (.yield l) #[] #[]] 102)) 3 (.int .i64 0)
    rw [World.size_alloc] at hB2
    exact ⟨hJa _ _ _ _ h0 hap, (Boxed.new W _ _).alloc _, hB2, fun k hk e => by
      have := hg0 k e
      simp at hk
      omega, fun k hk => by simp at hk; simp; omega, fun k hk _ => (Below.heap_alloc _ _ k (by simp; omega)).trans ((Below.heap_alloc _ _ k (by omega)).trans (hW.block k hk)), fun D hD => by cases hD⟩
  refine callsIn_of_wp_marks Tryz.func64 rfl trivial ?_ rfl
  simp only [Tryz.ntmps64, List.size_toArray, List.length_cons, List.length_nil, Nat.reduceAdd, Nat.reduceSub, Array.replicate_succ, Array.replicate_zero, List.push_toArray, List.append_toArray, List.nil_append, List.cons_append]
  gi_wp2
  generalize (W.alloc (.cells #[.func (.yield l) #[] #[]] 102)).alloc (.cells #[.int .i64 0] 3) = WL at hI0 hl1 ⊢
  refine wpIn_loop (EachInv l Bl Bg W.heap.size (W.heap.size + 1) (.slice A m c) m (EachR W.heap.size w0.heap.size Bx W.heap.size (W.heap.size + 1) l m G w0 J ls)) (fun a' _ => m - (intOf (a'.tmps.getD 11 undef)).toNat) ?start ?round
  case start =>
    unfold EachInv
    (repeat apply Exists.intro)
    refine ⟨?_, rfl⟩
    exact ⟨0, [], rfl, rfl, g0, Nat.zero_le _, List.nodup_nil, by have := hI0.lt (W.heap.size + 1) (by simp); omega, Lib.hid hI0⟩
  case round =>
    rintro _ wr ⟨u6, u7, u8, u12, u13, u14, u15, u16, u17, u18, u19, u20, u21, u22, u23, u24, u25, u26, u27, u28, u29, u30, u31, u32, u33, u34, u11, dl, ⟨i, Ds, rfl, rfl, g, him, hnd, hsz, hI⟩, rfl⟩
    try dsimp only
    by_cases hi : i < m
    · obtain ⟨s, hsi⟩ : ∃ s, ls[i]? = some s := ⟨_, List.getElem?_eq_getElem (by omega)⟩
      obtain ⟨blk, off, rfl, hblk, hcells⟩ := hA.some_ (by omega)
      have hel : wr.cell? ⟨blk, off + i, none⟩ = some (.string (str s)) := (cell_same (hI.out.old blk hblk (hAx (by omega) _ rfl))).trans (hcells i s hsi)
      have hsl := hs s (List.mem_of_getElem? hsi)
      have hnc := hI.out.nxt.cell
      have hzi : (i : Int) < (m : Int) := by omega
      have hzi0 : (0 : Int) ≤ (i : Int) := by omega
      have HSe := Lib.hid (prSearch_s s wr (HR0 wr hI.out.old).spans hsl)
      obtain ⟨out, hout⟩ : ∃ out, zoneP G (ls.take i) = out := ⟨_, rfl⟩
      rw [hout] at hI hnc
      obtain ⟨b0, hb0⟩ : ∃ b0, beginOf G out = b0 := ⟨_, rfl⟩
      rw [hb0] at hI hnc
      have HO := Lib.hid hout
      have HB := Lib.hid hb0
      have HSI := Lib.hid hsi
      have HCells := Lib.hid hcells
      have HLen := Lib.hid hlen
      have HI0 := Lib.hid hI0
      have HY := Lib.hid hY
      have HJa := Lib.hid hJa
      have HJc := Lib.hid hJc
      have HRd := Lib.hid HR0
      have HA := Lib.hid hA
      have HND := Lib.hid hnd
      clear hout hb0 hsi hcells hlen hI0 hY hJa hJc HR0 hA hAx hl hl1 hlW hk0 hS hnd h0
      have d1 : Fence.wide.fn 21 := trivial
      have d2 : Fence.wide.fn 65 := trivial
      have hn1 : 1 ≤ n := by omega
      gi_wp2_with fail
      refine (callsIn_wide.2 HSe.out).mono ?_
      rintro e w1 ⟨rfl, k1⟩
      gi_wp2_with fail
      refine (callsIn_wide.2 (fieldsSeq_any (nSearch s) w1)).mono ?_
      rintro e w2 ⟨rfl, rfl⟩
      have hsz1 := k1.size
      gi_wp2
      obtain ⟨w2, hw2⟩ : ∃ w2, w1.alloc (.cells #[.string (str (nSearch s))] 9) = w2 := ⟨_, rfl⟩
      have hs2 : w2.heap.size = w1.heap.size + 1 := by rw [← hw2]; simp
      have hBf : Boxed w2 w1.heap.size 9 (.string (str (nSearch s))) := by rw [← hw2]; exact Boxed.new _ _ _
      have k2 : Below wr.heap.size wr w2 := by rw [← hw2]; exact below_new k1 _
      rw [hw2]
      clear hw2
      have hgs : ∀ k, g = some k → k < wr.heap.size := fun k e => by
        obtain ⟨o, h1, _⟩ := HJc.out _ _ _ hI.out.j k e
        exact (Array.getElem?_eq_some_iff.1 h1).1
      have hI2 : EachI W.heap.size w0.heap.size Bx W.heap.size (W.heap.size + 1) l w0 J [W.heap.size, W.heap.size + 1, w1.heap.size] Ds out b0 g w2 := by
        have h1 := hI.out.below HJa.out (by omega) k2
        refine { h1 with gk := fun k hk e => ?_, lt := fun k hk => ?_ }
        · have := hgs k e
          have h2 := hI.out.lt W.heap.size (by simp)
          have h3 := h1.gk
          simp only [List.mem_cons, List.not_mem_nil, or_false] at hk h3
          rcases hk with hk | hk | hk
          · exact h3 k (.inl hk) e
          · exact h3 k (.inr hk) e
          · omega
        · have h2 := h1.lt
          simp only [List.mem_cons, List.not_mem_nil, or_false] at hk h2
          rcases hk with hk | hk | hk
          · exact h2 k (.inl hk)
          · exact h2 k (.inr hk)
          · omega
      have hb1w : W.heap.size < wr.heap.size := hI.out.lt _ (by simp)
      have hb2w : W.heap.size + 1 < wr.heap.size := hI.out.lt _ (by simp)
      have hDw : ∀ D ∈ Ds, D < wr.heap.size := fun D hD => (Array.getElem?_eq_some_iff.1 (hI.out.ds D hD).2).1
      have hS2 : Ready10 w2 := HRd.out w2 hI2.old
      have hnl := nSearch_len s
      have hbm : b0 ≤ 1000 * 241001 := by
        have h1 := begin_most G (ls.take i) (fun x hx => hs x (List.mem_of_mem_take hx))
        rw [HO.out, HB.out, List.length_take] at h1
        have h2 : min i ls.length * (240001 + G) ≤ 1000 * 241001 := Nat.mul_le_mul (by omega) (by omega)
        omega
      have htl := texts_len s
      refine wpIn_rangeFunc_ownG rfl (by omega) (gf := 105) (lb := #[.pointer (some ⟨w1.heap.size, 0, none⟩)]) rfl trivial (enters_of Tryz.func105 (by kernel_rfl) rfl)
        (fs_stops (n - 1) (by omega) (nSL s) (fun c hc => ⟨search_okC s hc, search_space s hc⟩) (nSearch s) rfl (by omega) w1.heap.size w2 (by omega) hS2 hBf.cell) (fun h k => h.trans k) (fun W' l' o o' _ h ho _ => KpF.putObj W' l' o o' h ho) (Below.refl _ _) (fun _ => rfl)
        (fun pre W' => ∃ g', EachI W.heap.size w0.heap.size Bx W.heap.size (W.heap.size + 1) l w0 J [W.heap.size, W.heap.size + 1, w1.heap.size] Ds (out ++ pre.zipIdx b0) (b0 + pre.length) g' W' ∧ w2.heap.size ≤ W'.heap.size)
        (fun _ _ _ => False)
        (fun pre X Y row hx hgb hrow => by
          obtain ⟨g', h, hsx⟩ := hx
          refine ⟨g', h.turn HJa.out (Apart.of_grownBy hgb fun r e => ⟨by have := (hrow r e).1; omega, fun e2 => ?_⟩) (fun k => row = some k) (fun k hk hn => hgb.block k hk (fun e => hn e.symm)) ?_ ?_ (fun k hk _ => ⟨by omega, fun e => ?_⟩) (fun D hD e => ?_), Nat.le_trans hsx hgb.size⟩
          · obtain ⟨o, h1, h2⟩ := HJc.out _ _ _ h.j r e2
            obtain ⟨o', h3, h4⟩ := (hrow r e).2
            rw [h1] at h3; cases h3; rw [h2] at h4; cases h4
          · intro e; have := (hrow _ e).1; omega
          · intro e; have := (hrow _ e).1; omega
          · have := (hrow _ e).1; omega
          · have := (hrow _ e).1; have := hDw D hD; omega)
        (fun _ _ _ _ _ hx _ _ => hx)
        ⟨g, by simpa using hI2, Nat.le_refl _⟩
        (fun x => { tmps := #[.func (.yield l) #[] #[], .pointer (some ⟨Bl, 0, none⟩), .pointer (some ⟨Bg, 0, none⟩), .pointer (some ⟨W.heap.size, 0, none⟩), .pointer (some ⟨W.heap.size + 1, 0, none⟩), undef, .string (str s), .int .i64 (b0 : Int), .string (str x), .slice (some ⟨blk, off, none⟩) m c, .int .i64 (m : Int), .int .i64 (i : Int), .bool true,
          .pointer (some ⟨blk, off + i, none⟩), .string (str s), .int .i64 (b0 : Int), .string (str s), .string (str (nSearch s)), .func (.func 105) #[] #[.pointer (some ⟨w1.heap.size, 0, none⟩)], .string (str x), u20, u21, u22, u23, u24, u25, u26, u27, u28, u29, u30, u31, u32, u33, u34], defers := [] }) ?assign ?body ?done ?stop
      case assign =>
        intro l' x W' K hK
        gi_wp2
        exact hK
      case body =>
        rintro l' pre x W' ⟨g', h, hsx⟩ hlt
        rw [texts_parts] at hlt
        have hz := zone_next (G := G) HSI.out
        rw [HO.out, HB.out] at hz
        have hlong := zone_longer G (ls.take (i + 1)) (ls.drop (i + 1))
        rw [List.take_append_drop, hz, List.length_append, List.length_zipIdx] at hlong
        obtain ⟨q, hq⟩ : ∃ q, b0 + pre.length = q := ⟨_, rfl⟩
        rw [hq] at h
        obtain ⟨fn, tmps, assign, body, hy, hRn⟩ := HY.out g' (out ++ pre.zipIdx b0) (x, q) W' h.j (by rw [List.length_append, List.length_zipIdx]; omega)
        dsimp only [wvE] at hy
        have hyc := h.y.cell
        have hnc' := h.nxt.cell
        have hqm : q ≤ 1000000000 := by omega
        have hqz : (q : Int) ≤ 1000000000 := by omega
        have hqz0 : (0 : Int) ≤ (q : Int) := by omega
        have HQ := Lib.hid hq
        have H := Lib.hid h
        clear hz hlong hq h hnc hel hBf hI2 hlt
        have hn3 : 1 ≤ n - 1 - 1 := by omega
        gi_wp2
        refine (round_any hRn).mono ?_
        rintro e W3 ⟨rfl, g3, hJ3, hR3⟩
        have h3 := H.out.round HJc.out hJ3 hR3 (by omega) (fun k hk => by simp only [List.mem_cons, List.not_mem_nil, or_false] at hk; omega) (by simp) (by simp)
        have hnc3 := h3.nxt.cell
        have hnf3 := h3.nxt.frozen
        have H3 := Lib.hid h3
        have HR3 := Lib.hid hR3
        clear h3 hR3 hJ3 hyc hnc' hy hRn
        gi_wp2
        have h4 := H3.out.store HJa.out (by omega) (by omega) (by simp) (by omega) (q + 1)
        have hsz3 := HR3.out.size
        have hlt1 := H.out.lt w1.heap.size (by simp)
        refine ⟨⟨?_, ?_⟩, ⟨fun _ => HRd.out _ h4.old, fun v hv => ?_⟩, g3, ?_, ?_⟩
        · have := (KeepsWalks.setCell W3 ⟨W.heap.size + 1, 0, none⟩ (.int .i64 ((q : Int) + 1))).size
          omega
        · intro k o hk hko ho
          have hg3 : g' ≠ some k := fun e => by
            obtain ⟨o', h5, h6⟩ := HJc.out _ _ _ H.out.j k e
            rw [hko] at h5; cases h5; rw [ho] at h6; cases h6
          exact (Below.heap_setCell _ _ _ k (by show k ≠ W.heap.size + 1; omega)).trans ((HR3.out.block k (Array.getElem?_eq_some_iff.1 hko).1 (.inr ⟨by omega, hg3⟩)).trans hko)
        · have h5 : W3.heap[w1.heap.size]? = W'.heap[w1.heap.size]? := HR3.out.block _ hlt1 (.inr ⟨by omega, H.out.gk _ (by simp)⟩)
          exact (cell_same ((Below.heap_setCell _ _ _ _ (by show w1.heap.size ≠ W.heap.size + 1; omega)).trans h5)).trans hv
        · rw [List.length_append, List.length_singleton, ← Nat.add_assoc, HQ.out, idx_snoc, HQ.out, ← List.append_assoc]
          exact h4
        · have := (KeepsWalks.setCell W3 ⟨W.heap.size + 1, 0, none⟩ (.int .i64 ((q : Int) + 1))).size
          omega
      case done =>
        rintro D xs W' hD rfl ⟨g', h, hsx⟩ hDef
        rw [texts_parts] at h
        have hz := zone_next (G := G) HSI.out
        rw [HO.out, HB.out] at hz
        have hst := begin_step G out (textsB s)
        rw [HB.out] at hst
        obtain ⟨q, hq⟩ : ∃ q, b0 + (textsB s).length = q := ⟨_, rfl⟩
        rw [hq] at h hst
        have hnc' := h.nxt.cell
        have hnf' := h.nxt.frozen
        have hgc : W'.cell? ⟨Bg, 0, none⟩ = some (.int .i64 (G : Int)) := by
          obtain ⟨o, h1, _⟩ := cell_blockT hg
          exact (cell_same (h.old Bg (Array.getElem?_eq_some_iff.1 h1).1 hBg)).trans hg
        have hqm : q ≤ 1000000000 := by omega
        have hqz : (q : Int) ≤ 1000000000 := by omega
        have hqz0 : (0 : Int) ≤ (q : Int) := by omega
        have hGz : (G : Int) ≤ 1000 := by omega
        have hGz0 : (0 : Int) ≤ (G : Int) := by omega
        have hNd : (D :: Ds).Nodup := List.nodup_cons.2 ⟨fun hm => by have := hDw D hm; omega, HND.out⟩
        have hds : ∀ E ∈ D :: Ds, W.heap.size ≤ E ∧ W'.heap[E]? = some (.deferred (some [])) := fun E hE => by
          rcases List.mem_cons.1 hE with rfl | hE
          · exact ⟨by omega, hDef⟩
          · exact h.ds E hE
        have h6 : EachI W.heap.size w0.heap.size Bx W.heap.size (W.heap.size + 1) l w0 J [W.heap.size, W.heap.size + 1] (D :: Ds) (out ++ (textsB s).zipIdx b0) q g' W' :=
          { h with gk := fun k hk => h.gk k (by simp at hk ⊢; omega), lt := fun k hk => h.lt k (by simp at hk ⊢; omega), ds := hds }
        by_cases htx : textsB s = []
        · have hq0 : q = b0 := by rw [htx] at hq; exact hq.symm
          rw [if_pos htx] at hst
          have hqb : ¬ ((b0 : Int) < (q : Int)) := by omega
          have HF : Hid (zoneP G (ls.take (i + 1)) = out ++ (textsB s).zipIdx b0 ∧ beginOf G (out ++ (textsB s).zipIdx b0) = q) := Lib.hid ⟨hz, by rw [hst, hq0]⟩
          have H6 := Lib.hid h6
          clear hz hst hq htx hq0 h h6 hnc hel hBf hI2 hds hDef
          gi_wp2
          refine ⟨?inv, ?measure⟩
          case inv =>
            unfold EachInv
            (repeat apply Exists.intro)
            refine ⟨?_, rfl⟩
            exact ⟨i + 1, D :: Ds, by simp, rfl, g', by omega, hNd, by omega, Lib.hid (by rw [HF.out.1, HF.out.2]; exact H6.out)⟩
          case measure => simp [intOf]; omega
        · have hpos := List.length_pos_iff.2 htx
          rw [if_neg htx] at hst
          have hqb : ((b0 : Int) < (q : Int)) := by omega
          have HF : Hid (zoneP G (ls.take (i + 1)) = out ++ (textsB s).zipIdx b0 ∧ beginOf G (out ++ (textsB s).zipIdx b0) = q + G) := Lib.hid ⟨hz, by rw [hst, ← hq]⟩
          have h7 := h6.store HJa.out (by omega) (by omega) (by simp) (by omega) (q + G)
          have H7 := Lib.hid h7
          have hsz7 := (KeepsWalks.setCell W' ⟨W.heap.size + 1, 0, none⟩ (.int .i64 ((q : Int) + (G : Int)))).size
          clear hz hst hq htx h h6 h7 hnc hel hBf hI2 hds hDef hpos
          gi_wp2
          refine ⟨?inv, ?measure⟩
          case inv =>
            unfold EachInv
            (repeat apply Exists.intro)
            refine ⟨?_, rfl⟩
            exact ⟨i + 1, D :: Ds, by simp, rfl, g', by omega, hNd, by omega, Lib.hid (by rw [HF.out.1, HF.out.2]; exact H7.out)⟩
          case measure => simp [intOf]; omega
      case stop =>
        rintro D c' pre W' _ _ h _
        exact h.elim
    · obtain rfl : i = m := by omega
      have HI := Lib.hid hI.out
      have HE : Hid (zoneP G (ls.take i) = zoneP G ls) := Lib.hid (by rw [List.take_of_length_le (by omega)])
      have HJa := Lib.hid hJa
      have HJc := Lib.hid hJc
      have HND := Lib.hid hnd
      clear hI hJa hJc hY hl hl1 hlW hg hnd
      gi_wp2
      refine leaves_marks (fun D => W.heap.size ≤ D) (fun w' => ∃ g, J g (zoneP G ls) w') (fun w' D hD hx h => ?_) (fun w' hx => ?_) Ds wr HND.out HI.out.ds ⟨g, by rw [← HE.out]; exact HI.out.j⟩
      · obtain ⟨g', hx⟩ := hx
        refine ⟨g', HJa.out _ _ _ _ hx (Apart.putObj _ _ _ hD fun e => ?_)⟩
        obtain ⟨o, h1, h2⟩ := HJc.out _ _ _ hx D e
        rw [h] at h1; cases h1; cases h2
      · obtain ⟨g', hx⟩ := hx
        exact ⟨_, results_none rfl _ _ _, ⟨_, rfl⟩, _, rfl, g', hx⟩

end Go.Proofs.YtbnchnbblchmnaaGreatDoor
