/-
  The contracts of wire.Text and wire.From.
-/
import Derived.Test.YtefonoaffeahjaaInt
namespace Go.Proofs.Ytefonoaffeahjaa
open Go.RowKit

set_option maxHeartbeats 800000 in
theorem text_own (v : Value) (bs : List UInt8) (s : List UInt8) (base : Nat) (w : World)
    (hown : w.ownsRow base 5 1 v bs.length (bs.map bv)) (hbase : base ≤ w.heap.size) (hlen : bs.length + s.length + 10 ≤ 1000000000000) :
    Calls Try.prog 22 #[v, .string (str s)] w fun e w' => ∃ v', e = .returned v' ∧ w'.ownsRow base 5 1 v' (bs ++ encT s).length ((bs ++ encT s).map bv) ∧ Below base w w' := by
  have hsz : (str s).size = s.length := rfl
  go_enter Try.func22, Try.ntmps22
  go_wp2_with fail
  refine (int_own v bs s.length base w (by omega) (by omega) hown hbase (by omega)).mono ?_
  rintro e w1 ⟨v1, rfl, hown1, hb1⟩
  have hl := (enc_bound _ (zig_lt s.length (by omega) (by omega))).2
  have hlen2 : (bs ++ encI s.length).length + s.length ≤ 1000000000000 := by rw [List.length_append]; unfold encI; omega
  have hbase1 : base ≤ w1.heap.size := by have := hb1.size; omega
  go_wp2_with (at_builtin; refine append_text _ rfl (.tmp 8) (.tmp 9) rfl base v1 (bs ++ encI s.length) rfl hown1 s rfl hlen2 hbase1 ?_; intro v2 w2 hown2 hb2)
  go_ret
  exact ⟨_, rfl, by rw [List.append_assoc] at hown2; exact hown2, hb1.trans hb2⟩

set_option maxHeartbeats 800000 in
theorem from_any (v : Value) (bs : List UInt8) (B : Nat) (w : World) (h : Sl w B v bs) (hlen : bs.length ≤ 100000000000) :
    Calls Try.prog 11 #[v] w fun e w' => ∃ g v', e = .returned (.pointer (some ⟨g, 0, none⟩)) ∧ w.heap.size ≤ g ∧ Box w' g 61 #[v', .bool false] ∧ Sl w' g v' bs ∧ w.grownBy w' none := by
  go_enter Try.func11, Try.ntmps11
  go_wp2_with (at_builtin; refine append_bytes _ rfl _ (.tmp 3) rfl w.heap.size B (.slice none 0 0) [] rfl (World.ownsRow_nil _ _ _ _) bs v rfl h (by simp; omega) (Nat.le_refl _) ?_; intro v' w1 hown hgrow; obtain ⟨A, c, rfl⟩ := (Sl.of_own hown).form)
  go_ret
  refine ⟨_, _, rfl, hgrow.size, Box.made _ _ _, ?_, ?_⟩
  · exact (Sl.of_own hown).below ((Below.refl _ _).alloc (Nat.le_refl _) _)
  · exact grown_of_below _ (hgrow.alloc hgrow.size _)

end Go.Proofs.Ytefonoaffeahjaa
