/-
  Plain data that a listed variable holds: what reads as a datum of numbers, strings, structs and arrays is the datum's values, cell for cell.
-/
import Derived.Test.YtpgaebdaakllaaaDoorWords
import Derived.Lib.LaidTab
import Derived.LaidLaws
namespace Go.Proofs.YtpgaebdaakllaaaDoor
open Go.RowKit

mutual
def flat {H : Type} : DataW H → List Value
  | .lit (.bool b) => [.bool b]
  | .lit (.int k n) => [.int k n]
  | .lit (.string s) => [.string ⟨s.toArray⟩]
  | .agg ds => flatAll ds
  | _ => []
def flatAll {H : Type} : List (DataW H) → List Value
  | [] => []
  | d :: r => flat d ++ flatAll r
end

def offsOk (P : Program) : List Field → Nat → Nat → Bool
  | [], o, c => o == c
  | f :: r, o, c => f.offset == o && offsOk P r (o + P.cellsOf f.type) c
/-- A type of numbers, strings, structs and arrays, at most n deep, whose parts lie one behind the other. -/
def plainTy (P : Program) : Nat → TypeId → Bool
  | 0, _ => false
  | n + 1, t => match P.underlying t with
    | some (.int _) => true
    | some .string => true
    | some .bool => true
    | some (.array m e) => P.cellsOf t == m * P.cellsOf e && plainTy P n e
    | some (.struct fs) => offsOk P fs.toList 0 (P.cellsOf t) && fs.toList.all fun f => plainTy P n f.type
    | _ => false

section
variable {H : Type} {enc : TypeId × Value → H} {P : Program} {w : World} {base : Nat} {sp : Nat → Bool} {held : Bool}

theorem trod_arr {fuel : Nat} {t e : TypeId} {m : Nat} {cs : List Value} {d : DataW H} {p : List MemPlace} (ht : P.underlying t = some (.array m e)) (h : DataW.trod enc P w base sp held fuel t cs = some (d, p)) :
    ∃ n xs, fuel = n + 1 ∧ d = .agg (xs.map (fun x : DataW H × List MemPlace => x.1)) ∧ cs.length = P.cellsOf t ∧
      (List.range m).mapM (fun i => DataW.trod enc P w base sp held n e ((cs.drop (i * P.cellsOf e)).take (P.cellsOf e))) = some xs := by
  cases fuel with
  | zero => simp [DataW.trod] at h
  | succ n =>
    simp only [DataW.trod, ht] at h
    split at h
    · rename_i hl
      obtain ⟨xs, hm, hx⟩ := Option.map_eq_some_iff.1 h
      exact ⟨n, xs, rfl, (congrArg Prod.fst hx).symm, hl, hm⟩
    · cases h

theorem flat_rows {c : Nat} {cs : List Value} : ∀ (m : Nat) (ds : List (DataW H)), ds.length = m → (∀ i d, ds[i]? = some d → (cs.drop (i * c)).take c = flat d) → cs.length = m * c → cs = flatAll ds := by
  intro m
  induction m generalizing cs with
  | zero =>
    intro ds hds _ hl
    rw [List.length_eq_zero_iff.1 hds]
    rw [Nat.zero_mul] at hl
    exact List.length_eq_zero_iff.1 hl
  | succ m ih =>
    intro ds hds hall hl
    match ds, hds with
    | d :: r, hds =>
      have h0 := hall 0 d rfl
      rw [Nat.zero_mul, List.drop_zero] at h0
      have h1 := ih (cs := cs.drop c) r (by simpa using hds) (fun i d' hd' => by
        rw [List.drop_drop, ← hall (i + 1) d' (by simpa using hd')]
        congr 2
        rw [Nat.succ_mul]
        omega) (by rw [List.length_drop, hl, Nat.succ_mul]; omega)
      rw [flatAll, ← h0, ← h1, List.take_append_drop]

theorem flat_struct {cs : List Value} : ∀ (fs : List Field) (ds : List (DataW H)) (o : Nat), fs.length = ds.length → offsOk P fs o cs.length = true →
    (∀ (i : Nat) (f : Field) (d : DataW H), fs[i]? = some f → ds[i]? = some d → (cs.drop f.offset).take (P.cellsOf f.type) = flat d) → cs.drop o = flatAll ds
  | [], [], o, _, ho, _ => by
    unfold offsOk at ho
    rw [beq_iff_eq] at ho
    rw [flatAll, List.drop_eq_nil_iff]
    omega
  | f :: fs, d :: ds, o, hl, ho, hall => by
    unfold offsOk at ho
    rw [Bool.and_eq_true, beq_iff_eq] at ho
    have h0 := hall 0 f d rfl rfl
    have h1 := flat_struct fs ds _ (by simpa using hl) ho.2 fun i f' d' hf' hd' => hall (i + 1) f' d' (by simpa using hf') (by simpa using hd')
    rw [ho.1] at h0
    rw [flatAll, ← h0, ← h1, ← List.drop_drop, List.take_append_drop]
  | [], _ :: _, _, hl, _, _ => by simp at hl
  | _ :: _, [], _, hl, _, _ => by simp at hl

theorem flat_of_trod : ∀ (n fuel : Nat) (t : TypeId) (cs : List Value) (d : DataW H) (p : List MemPlace), plainTy P n t = true → DataW.trod enc P w base sp held fuel t cs = some (d, p) → cs = flat d := by
  intro n
  induction n with
  | zero => intro fuel t cs d p h; cases h
  | succ n ih =>
    intro fuel t cs d p hp h
    unfold plainTy at hp
    split at hp
    · rename_i k ht
      obtain ⟨z, rfl, hx, _⟩ := DataW.trod_int ht h
      rw [show d = _ from congrArg Prod.fst hx]
      rfl
    · rename_i ht
      obtain ⟨s, rfl, hx, _⟩ := DataW.trod_string ht h
      rw [show d = _ from congrArg Prod.fst hx]
      rfl
    · rename_i ht
      obtain ⟨b, rfl, hx⟩ := DataW.trod_bool ht h
      rw [show d = _ from congrArg Prod.fst hx]
      rfl
    · rename_i m e ht
      rw [Bool.and_eq_true, beq_iff_eq] at hp
      obtain ⟨f, xs, rfl, rfl, hl, hm⟩ := trod_arr ht h
      have hxl : xs.length = m := by simpa using Lib.mapM_length hm
      refine flat_rows (c := P.cellsOf e) m _ (by rw [List.length_map]; exact hxl) (fun i d hd => ?_) (by rw [hl, hp.1])
      rw [List.getElem?_map] at hd
      obtain ⟨x, hx, rfl⟩ := Option.map_eq_some_iff.1 hd
      have hi : i < m := by rw [← hxl]; exact (List.getElem?_eq_some_iff.1 hx).1
      obtain ⟨b, hb, hf⟩ := Lib.mapM_at hm i i (by simp [hi])
      rw [hx] at hb
      cases hb
      exact ih f e _ x.1 x.2 hp.2 hf
    · rename_i fs ht
      rw [Bool.and_eq_true] at hp
      obtain ⟨xs, f, rfl, hx, hl, hxl, hall⟩ := DataW.trod_struct ht h
      rw [show d = _ from congrArg Prod.fst hx]
      have := flat_struct (P := P) (cs := cs) fs.toList (xs.map (·.1)) 0 (by simp [hxl]) (by rw [hl]; exact hp.1) (fun i g d hg hd => by
        rw [List.getElem?_map] at hd
        obtain ⟨x, hx, rfl⟩ := Option.map_eq_some_iff.1 hd
        have hg2 : fs[i]? = some g := by rwa [← Array.getElem?_toList]
        have h1 := hall i g hg2
        rw [hx] at h1
        exact ih f g.type _ x.1 x.2 (List.all_eq_true.1 hp.2 g (List.mem_of_getElem? hg)) h1)
      rw [List.drop_zero] at this
      rw [this]
      rfl
    · cases hp
end

/-- A listed variable of such a type holds its datum's values. -/
theorem laid_flat {P : Program} {w : World} {n : String} {dd : DataW Unit} {rest : List (String × DataW Unit)} (h : laidMet P ((n, dd) :: rest) w) {g t : Nat} (hg : P.globalNamed n = some g) (ht : (P.globals[g]?).map (·.type) = some t) (hp : plainTy P 8 t = true) :
    ∃ u fz, w.heap[g]? = some (.cells (flat dd).toArray u fz) := by
  obtain ⟨ps, ⟨g', t', cs, fuel, p, q, hg', ht', hvar, hd, _, _⟩, _⟩ := h
  obtain rfl := Option.some.inj (hg.symm.trans hg')
  obtain rfl := Option.some.inj (ht.symm.trans ht')
  have h1 := flat_of_trod 8 fuel t _ dd p hp hd
  unfold World.var? at hvar
  rw [hg] at hvar
  simp only [Option.bind_some] at hvar
  split at hvar
  · rename_i cs' u fz hh
    cases hvar
    refine ⟨u, fz, ?_⟩
    rw [hh, ← h1]
  · cases hvar

end Go.Proofs.YtpgaebdaakllaaaDoor
