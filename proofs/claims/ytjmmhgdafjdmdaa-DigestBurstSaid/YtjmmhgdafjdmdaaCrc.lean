/-
  The checksum of layer 2 in plain mathematics: a register of 32 bits, its shift, the sum of a byte string; linear without carries; what a burst of changed bits leaves.
-/
namespace Go.Proofs.Ytjmmhgdafjdmdaa

def poly : BitVec 32 := 0x82F63B78#32

/-- The register behind a bit 0. -/
def sh (r : BitVec 32) : BitVec 32 := (r >>> 1) ^^^ (if r.getLsbD 0 then poly else 0#32)

theorem sh_xor (a b : BitVec 32) : sh (a ^^^ b) = sh a ^^^ sh b := by
  unfold sh
  rw [BitVec.ushiftRight_xor_distrib, BitVec.getLsbD_xor]
  apply BitVec.eq_of_getLsbD_eq
  intro i hi
  cases a.getLsbD 0 <;> cases b.getLsbD 0 <;> simp <;> cases a.getLsbD (1 + i) <;> cases b.getLsbD (1 + i) <;> cases poly.getLsbD i <;> rfl

theorem sh_zero : sh 0#32 = 0#32 := by decide

theorem sh_inj {a : BitVec 32} (h : sh a = 0#32) : a = 0#32 := by
  have h31 := congrArg (fun x : BitVec 32 => x.getLsbD 31) h
  unfold sh at h31
  simp only [BitVec.getLsbD_xor, BitVec.getLsbD_ushiftRight, BitVec.getLsbD_zero] at h31
  have hp : poly.getLsbD 31 = true := by decide
  have h0 : a.getLsbD 0 = false := by
    cases ha : a.getLsbD 0 with
    | false => rfl
    | true =>
      rw [ha, if_pos rfl, hp, BitVec.getLsbD_of_ge a (1 + 31) (by omega)] at h31
      cases h31
  apply BitVec.eq_of_getLsbD_eq
  intro i hi
  cases i with
  | zero => rw [h0]; simp
  | succ i =>
    have hi' := congrArg (fun x : BitVec 32 => x.getLsbD i) h
    unfold sh at hi'
    simp only [BitVec.getLsbD_xor, BitVec.getLsbD_ushiftRight, BitVec.getLsbD_zero, h0] at hi'
    rw [Nat.add_comm]
    simpa using hi'

def shn : Nat → BitVec 32 → BitVec 32
  | 0, r => r
  | n + 1, r => shn n (sh r)

theorem shn_add (m : Nat) : ∀ (n : Nat) (r : BitVec 32), shn (m + n) r = shn n (shn m r) := by
  induction m with
  | zero => intro n r; rw [Nat.zero_add]; rfl
  | succ m ih => intro n r; rw [show m + 1 + n = (m + n) + 1 from by omega]; exact ih n (sh r)
theorem shn_succ' (n : Nat) (r : BitVec 32) : shn (n + 1) r = sh (shn n r) := by rw [shn_add]; rfl
theorem shn_xor (n : Nat) : ∀ a b : BitVec 32, shn n (a ^^^ b) = shn n a ^^^ shn n b := by
  induction n with
  | zero => intro a b; rfl
  | succ n ih => intro a b; rw [shn, sh_xor, ih]; rfl
theorem shn_zero (n : Nat) : shn n 0#32 = 0#32 := by
  induction n with
  | zero => rfl
  | succ n ih => rw [shn, sh_zero, ih]
theorem shn_inj (n : Nat) : ∀ {a : BitVec 32}, shn n a = 0#32 → a = 0#32 := by
  induction n with
  | zero => intro a h; exact h
  | succ n ih => intro a h; exact sh_inj (ih h)
theorem shn_low (n : Nat) : ∀ (r : BitVec 32), (∀ i, i < n → r.getLsbD i = false) → shn n r = r >>> n := by
  induction n with
  | zero => intro r _; simp [shn]
  | succ n ih =>
    intro r h
    have e : sh r = r >>> 1 := by unfold sh; rw [h 0 (by omega)]; simp
    rw [shn, e, ih _ (fun i hi => by rw [BitVec.getLsbD_ushiftRight]; exact h _ (by omega)), ← BitVec.shiftRight_add, Nat.add_comm]

theorem xor_cancel (a b : BitVec 32) : a ^^^ (a ^^^ b) = b := by rw [← BitVec.xor_assoc, BitVec.xor_self, BitVec.zero_xor]
theorem xor_eq_zero {a b : BitVec 32} (h : a ^^^ b = 0#32) : a = b := by
  have := congrArg (fun x => x ^^^ b) h
  simp only [BitVec.xor_assoc, BitVec.xor_self, BitVec.xor_zero, BitVec.zero_xor] at this
  exact this

/-- A byte as a register. -/
def w8 (c : UInt8) : BitVec 32 := BitVec.ofNat 32 c.toNat

/-- The register behind bytes. -/
def reg (h : BitVec 32) : List UInt8 → BitVec 32
  | [] => h
  | c :: l => reg (shn 8 (h ^^^ w8 c)) l

theorem reg_append (l m : List UInt8) : ∀ h, reg h (l ++ m) = reg (reg h l) m := by
  induction l with
  | nil => intro h; rfl
  | cons c l ih => intro h; exact ih _

/-- All bits inverted. -/
def inv (h : BitVec 32) : BitVec 32 := ~~~ h
def crc (l : List UInt8) : BitVec 32 := inv (reg (inv 0#32) l)
def more (h : BitVec 32) (l : List UInt8) : BitVec 32 := inv (reg (inv h) l)
theorem more_zero (l : List UInt8) : more 0#32 l = crc l := rfl
theorem more_append (h : BitVec 32) (l m : List UInt8) : more (more h l) m = more h (l ++ m) := by
  unfold more inv; rw [BitVec.not_not, reg_append]

theorem reg_xor (l : List UInt8) : ∀ a b : BitVec 32, reg (a ^^^ b) l = reg a l ^^^ shn (8 * l.length) b := by
  induction l with
  | nil => intro a b; rfl
  | cons c l ih =>
    intro a b
    rw [reg, reg, show a ^^^ b ^^^ w8 c = (a ^^^ w8 c) ^^^ b from by rw [BitVec.xor_assoc, BitVec.xor_comm b, ← BitVec.xor_assoc], shn_xor, ih, ← shn_add]
    rw [List.length_cons, show 8 * (l.length + 1) = 8 + 8 * l.length from by omega]

/-- Join. -/
def join (x y : BitVec 32) (n : Nat) : BitVec 32 := shn (8 * n) x ^^^ y

theorem inv_eq (a : BitVec 32) : inv a = ~~~ a := rfl
theorem not_xor (a : BitVec 32) : ~~~ a = a ^^^ ~~~ 0#32 := by
  apply BitVec.eq_of_getLsbD_eq
  intro i hi
  rw [BitVec.getLsbD_xor, BitVec.getLsbD_not, BitVec.getLsbD_not, BitVec.getLsbD_zero, decide_eq_true hi]
  cases a.getLsbD i <;> rfl

theorem crc_append (a b : List UInt8) : join (crc a) (crc b) b.length = crc (a ++ b) := by
  unfold join crc inv
  rw [reg_append]
  have h : reg (reg (~~~ 0#32) a) b = reg (~~~ 0#32) b ^^^ shn (8 * b.length) (~~~ reg (~~~ 0#32) a) := by
    rw [← reg_xor, not_xor (reg (~~~ 0#32) a), BitVec.xor_comm (reg _ a), xor_cancel]
  rw [h, not_xor (reg _ b), not_xor (_ ^^^ _), BitVec.xor_comm (shn _ _), BitVec.xor_assoc, BitVec.xor_assoc, BitVec.xor_comm (~~~ 0#32)]

theorem w8_xor (c d : UInt8) : w8 (c ^^^ d) = w8 c ^^^ w8 d := by
  unfold w8
  rw [UInt8.toNat_xor]
  apply BitVec.eq_of_toNat_eq
  rw [BitVec.toNat_xor, BitVec.toNat_ofNat, BitVec.toNat_ofNat, BitVec.toNat_ofNat]
  have h1 := c.toNat_lt
  have h2 := d.toNat_lt
  have h3 : c.toNat ^^^ d.toNat < 2 ^ 32 := Nat.xor_lt_two_pow (by omega) (by omega)
  rw [Nat.mod_eq_of_lt h3, Nat.mod_eq_of_lt (by omega), Nat.mod_eq_of_lt (by omega)]

theorem xor_four (a b c d : BitVec 32) : (a ^^^ b) ^^^ (c ^^^ d) = (a ^^^ c) ^^^ (b ^^^ d) := by
  rw [BitVec.xor_assoc, ← BitVec.xor_assoc b, BitVec.xor_comm b c, BitVec.xor_assoc c, ← BitVec.xor_assoc]

/-- The sum without carries of three byte strings. -/
def sum3 : List UInt8 → List UInt8 → List UInt8 → List UInt8
  | a :: l, b :: m, c :: n => (a ^^^ b ^^^ c) :: sum3 l m n
  | _, _, _ => []

theorem sum3_length : ∀ a b c : List UInt8, a.length = b.length → b.length = c.length → (sum3 a b c).length = a.length
  | [], [], [], _, _ => rfl
  | a :: l, b :: m, c :: n, h1, h2 => by simp only [sum3, List.length_cons] at *; rw [sum3_length l m n (by omega) (by omega)]

theorem reg_sum3 : ∀ (a b c : List UInt8) (x y z : BitVec 32), a.length = b.length → b.length = c.length → reg (x ^^^ y ^^^ z) (sum3 a b c) = reg x a ^^^ reg y b ^^^ reg z c
  | [], [], [], x, y, z, _, _ => rfl
  | a :: l, b :: m, c :: n, x, y, z, h1, h2 => by
    simp only [sum3, reg, List.length_cons] at *
    rw [← reg_sum3 l m n _ _ _ (by omega) (by omega), w8_xor, w8_xor, ← shn_xor, ← shn_xor, xor_four (x ^^^ y), xor_four x]

theorem crc_sum3 (a b c : List UInt8) (h1 : a.length = b.length) (h2 : b.length = c.length) : crc (sum3 a b c) = crc a ^^^ crc b ^^^ crc c := by
  unfold crc inv
  have := reg_sum3 a b c (~~~ 0#32) (~~~ 0#32) (~~~ 0#32) h1 h2
  rw [show (~~~ 0#32 : BitVec 32) ^^^ ~~~ 0#32 ^^^ ~~~ 0#32 = ~~~ 0#32 from by decide] at this
  rw [this]
  rw [not_xor (reg _ a), not_xor (reg _ b), not_xor (reg _ c), not_xor (_ ^^^ _), xor_four (reg _ a), show (~~~ 0#32 : BitVec 32) ^^^ ~~~ 0#32 = 0#32 from by decide, BitVec.xor_zero, BitVec.xor_assoc (_ ^^^ _)]

/-- A flipped bit. -/
def bit (k : Nat) : BitVec 32 := 1#32 <<< k

theorem bit_lsb (k i : Nat) : (bit k).getLsbD i = (decide (i < 32) && decide (i = k)) := by
  unfold bit
  rw [BitVec.getLsbD_shiftLeft]
  by_cases h : i = k
  · subst h; simp
  · by_cases h2 : i < k
    · simp [h, h2]
    · have : i - k ≠ 0 := by omega
      simp [h, h2, this]

theorem shn_bit (k n : Nat) (h : k ≤ n) (hn : n < 32) : shn k (bit n) = bit (n - k) := by
  rw [shn_low k _ (fun i hi => by rw [bit_lsb]; simp; omega)]
  apply BitVec.eq_of_getLsbD_eq
  intro i hi
  rw [BitVec.getLsbD_ushiftRight, bit_lsb, bit_lsb]
  by_cases h1 : i = n - k
  · have h3 : k + i = n := by omega
    rw [decide_eq_true h3, decide_eq_true h1, decide_eq_true hi, decide_eq_true (show k + i < 32 by omega)]
  · have h3 : ¬ k + i = n := by omega
    simp [h1, h3]

theorem w8_bit : ∀ k : Fin 8, w8 (UInt8.ofNat (2 ^ k.val)) = bit k.val := by decide

/-- The byte string with bit p flipped. -/
def flip (l : List UInt8) (p : Nat) : List UInt8 := l.set (p / 8) ((l.getD (p / 8) 0) ^^^ UInt8.ofNat (2 ^ (p % 8)))

theorem flip_length (l : List UInt8) (p : Nat) : (flip l p).length = l.length := by simp [flip]

theorem reg_flip (l : List UInt8) : ∀ (p : Nat) (h : BitVec 32), p < 8 * l.length → reg h (flip l p) = reg h l ^^^ shn (8 * l.length - p) 1#32 := by
  induction l with
  | nil => intro p h hp; simp at hp
  | cons c l ih =>
    intro p h hp
    by_cases h8 : p < 8
    · have e : flip (c :: l) p = (c ^^^ UInt8.ofNat (2 ^ p)) :: l := by
        unfold flip
        rw [show p / 8 = 0 from by omega, show p % 8 = p from by omega]
        rfl
      have hb := w8_bit ⟨p, h8⟩
      simp only at hb
      have h1 : shn (8 * (c :: l).length - p) 1#32 = shn (8 * l.length) (shn 8 (bit p)) := by
        rw [← shn_add, List.length_cons, show 8 + 8 * l.length = p + (8 * (l.length + 1) - p) from by omega, shn_add p, shn_bit p p (by omega) (by omega), Nat.sub_self]
        rfl
      rw [e, reg, reg, w8_xor, hb, ← BitVec.xor_assoc, shn_xor, reg_xor, h1]
    · have e : flip (c :: l) p = c :: flip l (p - 8) := by
        unfold flip
        rw [show p / 8 = (p - 8) / 8 + 1 from by omega, show (p - 8) % 8 = p % 8 from by omega]
        rfl
      rw [List.length_cons] at hp
      rw [e, reg, reg, ih (p - 8) _ (by omega), List.length_cons, show 8 * (l.length + 1) - p = 8 * l.length - (p - 8) from by omega]

/-- The lowest k bits. -/
def low (k : Nat) (b : BitVec 32) : BitVec 32 := BitVec.ofNat 32 (b.toNat % 2 ^ k)
theorem low_lsb (k : Nat) (b : BitVec 32) (i : Nat) : (low k b).getLsbD i = (decide (i < k) && b.getLsbD i) := by
  unfold low
  rw [BitVec.getLsbD_ofNat, Nat.testBit_mod_two_pow]
  by_cases h : i < 32
  · simp [h]; rfl
  · simp [h, BitVec.getLsbD_of_ge b i (by omega)]
theorem low_zero (b : BitVec 32) : low 0 b = 0#32 := by unfold low; simp [Nat.mod_one]
theorem low_succ (k : Nat) (b : BitVec 32) : low (k + 1) b = low k b ^^^ (if b.getLsbD k then bit k else 0#32) := by
  apply BitVec.eq_of_getLsbD_eq
  intro i hi
  rw [BitVec.getLsbD_xor, low_lsb, low_lsb]
  cases hb : b.getLsbD k with
  | false =>
    by_cases hik : i = k
    · subst hik; simp [hb]
    · have : decide (i < k + 1) = decide (i < k) := by rw [decide_eq_decide]; omega
      simp [this]
  | true =>
    rw [if_pos rfl, bit_lsb]
    by_cases hik : i = k
    · subst hik; simp [hb, hi]
    · have : decide (i < k + 1) = decide (i < k) := by rw [decide_eq_decide]; omega
      simp [this, hik]

/-- The four bytes of a register, the least significant one first. -/
def le4 (h : BitVec 32) : List UInt8 := [UInt8.ofNat (h.toNat % 256), UInt8.ofNat (h.toNat / 256 % 256), UInt8.ofNat (h.toNat / 65536 % 256), UInt8.ofNat (h.toNat / 16777216 % 256)]
def seal_ (l : List UInt8) : List UInt8 := l ++ le4 (crc l)
def open_ (l : List UInt8) : List UInt8 × Nat :=
  if l.length < 4 then ([], 5) else if l.drop (l.length - 4) = le4 (crc (l.take (l.length - 4))) then (l.take (l.length - 4), 0) else ([], 6)

theorem open_seal (l : List UInt8) : open_ (seal_ l) = (l, 0) := by
  have h4 : (seal_ l).length = l.length + 4 := by simp [seal_, le4]
  unfold open_
  rw [h4, if_neg (by omega), show l.length + 4 - 4 = l.length from by omega]
  have ht : (seal_ l).take l.length = l := by simp [seal_]
  have hd : (seal_ l).drop l.length = le4 (crc l) := by simp [seal_]
  rw [ht, hd, if_pos rfl]

theorem seal_open {l p : List UInt8} (h : open_ l = (p, 0)) : seal_ p = l := by
  unfold open_ at h
  split at h
  · simp at h
  · split at h
    · rename_i h1
      simp only [Prod.mk.injEq, and_true] at h
      unfold seal_
      rw [← h, ← h1, List.take_append_drop]
    · simp at h

theorem shn8_split (r y : BitVec 32) : shn 8 (r ^^^ y) = shn 8 (r ^^^ BitVec.ofNat 32 (y.toNat % 256)) ^^^ BitVec.ofNat 32 (y.toNat / 256) := by
  have e : y = BitVec.ofNat 32 (y.toNat % 256) ^^^ (y >>> 8 <<< 8) := by
    apply BitVec.eq_of_getLsbD_eq
    intro i hi
    rw [BitVec.getLsbD_xor, BitVec.getLsbD_shiftLeft, BitVec.getLsbD_ushiftRight, BitVec.getLsbD_ofNat, show 256 = 2 ^ 8 from rfl, Nat.testBit_mod_two_pow]
    by_cases h : i < 8
    · simp [h, hi]; rfl
    · simp only [h, hi, decide_false, decide_true, Bool.false_and, Bool.true_and, Bool.false_xor, Bool.not_false]
      rw [show 8 + (i - 8) = i from by omega]
  have e2 : shn 8 (y >>> 8 <<< 8) = BitVec.ofNat 32 (y.toNat / 256) := by
    rw [shn_low 8 _ (fun i hi => by rw [BitVec.getLsbD_shiftLeft]; simp [hi])]
    apply BitVec.eq_of_getLsbD_eq
    intro i hi
    rw [BitVec.getLsbD_ushiftRight, BitVec.getLsbD_shiftLeft, BitVec.getLsbD_ushiftRight, BitVec.getLsbD_ofNat, show 256 = 2 ^ 8 from rfl, Nat.testBit_div_two_pow]
    rw [show 8 + (8 + i - 8) = i + 8 from by omega, decide_eq_true hi, decide_eq_false (show ¬ 8 + i < 8 by omega)]
    by_cases h : 8 + i < 32
    · rw [decide_eq_true h]; rfl
    · rw [decide_eq_false h]
      have : y.getLsbD (i + 8) = false := BitVec.getLsbD_of_ge y _ (by omega)
      have h2 : y.toNat.testBit (i + 8) = false := this
      rw [h2]
      rfl
  conv => lhs; rw [e]
  rw [← BitVec.xor_assoc, shn_xor, e2]

/-- The four bytes of what is in the register lead it to 0: bytewise. -/
theorem reg_le4 (r x : BitVec 32) : reg r (le4 x) = shn 32 (r ^^^ x) := by
  have hb : ∀ n : Nat, w8 (UInt8.ofNat (n % 256)) = BitVec.ofNat 32 (n % 256) := fun n => by unfold w8; simp
  have step := shn8_split
  have hx : x.toNat < 2 ^ 32 := x.isLt
  have t1 : (BitVec.ofNat 32 (x.toNat / 256)).toNat = x.toNat / 256 := by rw [BitVec.toNat_ofNat]; omega
  have t2 : (BitVec.ofNat 32 (x.toNat / 65536)).toNat = x.toNat / 65536 := by rw [BitVec.toNat_ofNat]; omega
  have t3 : (BitVec.ofNat 32 (x.toNat / 16777216)).toNat = x.toNat / 16777216 := by rw [BitVec.toNat_ofNat]; omega
  have h32 : shn 32 (r ^^^ x) = shn 8 (shn 8 (shn 8 (shn 8 (r ^^^ x)))) := by rw [← shn_add, ← shn_add, ← shn_add]
  rw [h32, step r x, step _ (BitVec.ofNat 32 (x.toNat / 256)), t1, Nat.div_div_eq_div_mul,
    step _ (BitVec.ofNat 32 (x.toNat / (256 * 256))), t2, Nat.div_div_eq_div_mul, step _ (BitVec.ofNat 32 (x.toNat / (256 * 256 * 256))), t3, Nat.div_div_eq_div_mul,
    show x.toNat / (256 * 256 * 256 * 256) = 0 from by omega]
  unfold le4 reg reg reg reg reg
  rw [hb, hb, hb, hb]
  simp

theorem reg_seal (l : List UInt8) : reg (~~~ 0#32) (seal_ l) = shn 32 (~~~ 0#32) := by
  unfold seal_
  rw [reg_append, reg_le4]
  unfold crc inv
  rw [not_xor (reg _ _), xor_cancel]

/-- A changed sealed byte string is not opened. -/
theorem open_changed {l m : List UInt8} (hl : 4 ≤ m.length) (h : reg (~~~ 0#32) m ≠ reg (~~~ 0#32) (seal_ l)) : open_ m = ([], 6) := by
  unfold open_
  rw [if_neg (by omega), if_neg]
  intro hc
  apply h
  have e : seal_ (m.take (m.length - 4)) = m := by unfold seal_; rw [← hc, List.take_append_drop]
  rw [← e, reg_seal, reg_seal]

/-- What the bits of b, from the bit p0 on, change: the sum of the register. -/
theorem burst (s : List UInt8) (p0 k : Nat) (b : BitVec 32) (m : List UInt8) (hk : k < 32) (hp : p0 + k < 8 * s.length) (hm : m.length = s.length) (h : BitVec 32)
    (hr : reg h m = reg h s ^^^ shn (8 * s.length - p0) (low k b)) (hb : b.getLsbD k = true) :
    reg h (flip m (p0 + k)) = reg h s ^^^ shn (8 * s.length - p0) (low (k + 1) b) := by
  rw [reg_flip m _ _ (by omega), hr, low_succ, if_pos hb, shn_xor, BitVec.xor_assoc, hm]
  congr 2
  rw [show 8 * s.length - p0 = k + (8 * s.length - (p0 + k)) from by omega, shn_add, shn_bit k k (by omega) hk, Nat.sub_self]
  rfl

end Go.Proofs.Ytjmmhgdafjdmdaa
