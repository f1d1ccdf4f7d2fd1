/-
  Words for byte slices: a slice that reads as a list of bytes, and the contract of the comparison of two byte strings.
-/
import Derived.Test.YtjmmhgdafjdmdaaProg
import Derived.WalkKit
import Derived.WalkSpells
import Derived.Lib.Hide
namespace Go.Proofs.Ytjmmhgdafjdmdaa
open Go.RowKit

/-- A byte as the model holds it. -/
def bv (c : UInt8) : Value := .int .u8 (c.toNat : Int)

/-- In w, the slice v reads as the bytes bs: it is nil, or its elements stand below block B. -/
def Sl (w : World) (B : Nat) (v : Value) (bs : List UInt8) : Prop :=
  (v = .slice none 0 0 ∧ bs = []) ∨ ∃ (a : Addr) (c : Nat), v = .slice (some a) bs.length c ∧ bs.length ≤ c ∧ (0 < bs.length → a.block < B) ∧ ∀ i u, bs[i]? = some u → w.cell? (a.add i) = some (bv u)

theorem add_block (a : Addr) (n : Nat) : (a.add n).block = a.block := by unfold Addr.add; split <;> rfl

theorem Sl.keep {w w' : World} {B : Nat} {v : Value} {bs : List UInt8} (h : Sl w B v bs) (hk : ∀ p : Addr, p.block < B → w'.cell? p = w.cell? p) : Sl w' B v bs := by
  rcases h with h | ⟨a, c, e, hl, hb, hc⟩
  · exact .inl h
  · exact .inr ⟨a, c, e, hl, hb, fun i u hu => (hk _ (by rw [add_block]; exact hb (by have := (List.getElem?_eq_some_iff.1 hu).1; omega))).trans (hc i u hu)⟩

theorem Sl.below {w w' : World} {B : Nat} {v : Value} {bs : List UInt8} (h : Sl w B v bs) (hb : Below B w w') : Sl w' B v bs := h.keep fun _ hp => hb.cell hp

theorem Sl.more {w : World} {B B' : Nat} {v : Value} {bs : List UInt8} (h : Sl w B v bs) (hB : B ≤ B') : Sl w B' v bs := by
  rcases h with h | ⟨a, c, e, hl, hb, hc⟩
  · exact .inl h
  · exact .inr ⟨a, c, e, hl, fun h => by have := hb h; omega, hc⟩

theorem Sl.nil_ (w : World) (B : Nat) : Sl w B (.slice none 0 0) [] := .inl ⟨rfl, rfl⟩

theorem Sl.form {w : World} {B : Nat} {v : Value} {bs : List UInt8} (h : Sl w B v bs) : ∃ A c, v = .slice A bs.length c := by
  rcases h with ⟨e, rfl⟩ | ⟨a, c, e, _⟩
  · exact ⟨_, _, e⟩
  · exact ⟨_, _, e⟩

theorem plain_add (g j : Nat) : (⟨g, 0, none⟩ : Addr).add j = ⟨g, j, none⟩ := by unfold Addr.add; split <;> simp_all

theorem Sl.of_own {w : World} {base e : Nat} {v : Value} {bs : List UInt8} (h : w.ownsRow base e 1 v bs.length (bs.map bv)) : Sl w w.heap.size v bs := by
  rcases h.2 with ⟨hv, h0⟩ | ⟨g, cap, cur, hv, _, hg, hc, _, hsz, htake⟩
  · exact .inl ⟨hv, List.length_eq_zero_iff.1 h0⟩
  · refine .inr ⟨_, cap, hv, hc, fun _ => (Array.getElem?_eq_some_iff.1 hg).1, fun i u hu => ?_⟩
    rw [plain_add, Go.cell_of_row w g i cur e (0, 0) hg]
    have hi : i < bs.length := (List.getElem?_eq_some_iff.1 hu).1
    have h2 : (bs.map bv)[i]? = some (bv u) := by rw [List.getElem?_map, hu]; rfl
    rw [← htake, List.getElem?_take, if_pos (by omega)] at h2
    rw [← Array.getElem?_toList]
    exact h2

/-- A string of the model out of a list of bytes. -/
def str (bs : List UInt8) : ByteArray := ⟨bs.toArray⟩

theorem str_toList (bs : List UInt8) : (str bs).toList = bs := ByteArray.toList_mk bs

theorem conv_bytes {P : Program} {w : World} {B : Nat} {v : Value} {bs : List UInt8} (h : Sl w B v bs) (src e dst : TypeId)
    (hs : P.underlying src = some (.slice e)) (he : P.underlying e = some (.int .u8)) (hd : P.underlying dst = some .string) :
    (convert src dst v).run P w = .ok (.string (str bs)) w := by
  rcases h with ⟨rfl, rfl⟩ | ⟨a, c, rfl, _, _, hc⟩
  · rw [run_convert_bytes_string w src dst e none 0 0 hs he hd]
    simp [Conv.bytesToString, str]; rfl
  · rw [run_convert_bytes_string w src dst e (some a) bs.length c hs he hd]
    have hl : (loadCells a bs.length).run P w = .ok ((bs.map fun u => (u.toNat : Int)).map (Value.int .u8)).toArray w := by
      have := run_loadCells_list (P := P) w a (bs.map bv) (fun j v hj => by
        rw [List.getElem?_map] at hj
        cases hu : bs[j]? with
        | none => rw [hu] at hj; simp at hj
        | some u => rw [hu] at hj; rw [hc j u hu]; simpa using hj)
      have e1 : (bs.map fun u => (u.toNat : Int)).map (Value.int .u8) = bs.map bv := by rw [List.map_map]; rfl
      rw [e1]
      simpa using this
    rw [run_bytesToString w a bs.length c _ hl, foldl_push_bytes]
    have e2 : ((bs.map fun u => (u.toNat : Int)).map fun n => UInt8.ofNat n.toNat) = bs := by
      rw [List.map_map]
      conv => rhs; rw [← List.map_id bs]
      apply List.map_congr_left
      intro a _
      simp
    rw [e2]
    simp [str, ByteArray.empty, ByteArray.emptyWithCapacity]
    rfl

set_option maxHeartbeats 400000 in
theorem same_any (v v' : Value) (bs bs' : List UInt8) (B : Nat) (w : World) (h : Sl w B v bs) (h' : Sl w B v' bs') :
    Calls Try.prog 15 #[v, v'] w fun e w' => e = .returned (.bool (bs == bs')) ∧ w = w' := by
  have k1 := conv_bytes (P := Try.prog) h 22 5 9 Try.underlying22 Try.underlying5 Try.underlying9
  have k2 := conv_bytes (P := Try.prog) h' 22 5 9 Try.underlying22 Try.underlying5 Try.underlying9
  go_enter Try.func15, Try.ntmps15
  go_wp2
  go_ret
  exact ⟨by rw [str_toList, str_toList]; rfl, rfl⟩

end Go.Proofs.Ytjmmhgdafjdmdaa
