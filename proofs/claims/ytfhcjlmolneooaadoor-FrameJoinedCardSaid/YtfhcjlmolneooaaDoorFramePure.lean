/-
  Layer 8 (frame): sums of 16 bits, plain: bit by bit, half a byte at a time; a changed byte changes the sum. No program is named.
-/
import Derived.Test.YtfhcjlmolneooaaDoorBase
namespace Go.Proofs.YtfhcjlmolneooaaDoor
set_option linter.unusedVariables false
set_option linter.unusedSimpArgs false
/-- One bit. -/
def bitT (c : Nat) : Nat := if 65536 ≤ c * 2 then (c * 2 - 65536) ^^^ 4129 else c * 2
def bitB (x : BitVec 16) : BitVec 16 := (x <<< 1) ^^^ (if x.msb then 4129#16 else 0#16)
theorem bitB_nat (x : BitVec 16) : (bitB x).toNat = bitT x.toNat := by
  have hx := x.isLt
  unfold bitB bitT
  have hs : (x <<< 1).toNat = x.toNat * 2 % 65536 := by simp [BitVec.toNat_shiftLeft, Nat.shiftLeft_eq]
  rw [BitVec.toNat_xor, hs]
  by_cases h : 65536 ≤ x.toNat * 2
  · have hm : x.msb = true := by rw [BitVec.msb_eq_decide]; simp; omega
    rw [hm, if_pos h, if_pos rfl, show x.toNat * 2 % 65536 = x.toNat * 2 - 65536 by omega]
    rfl
  · have hm : x.msb = false := by rw [BitVec.msb_eq_decide]; simp; omega
    rw [hm, if_neg h, show x.toNat * 2 % 65536 = x.toNat * 2 by omega]
    simp
theorem bitB_xor (a b : BitVec 16) : bitB (a ^^^ b) = bitB a ^^^ bitB b := by
  unfold bitB
  rw [BitVec.shiftLeft_xor_distrib, BitVec.msb_xor]
  cases a.msb <;> cases b.msb <;> simp
  · exact BitVec.xor_assoc _ _ _
  · rw [BitVec.xor_assoc, BitVec.xor_assoc, BitVec.xor_comm (b <<< 1)]
  · rw [BitVec.xor_assoc, ← BitVec.xor_assoc (4129#16), BitVec.xor_comm (4129#16) (b <<< 1), BitVec.xor_assoc (b <<< 1), BitVec.xor_self, BitVec.xor_zero]
theorem bitT_lt {c : Nat} (h : c < 65536) : bitT c < 65536 := by
  have := bitB_nat (BitVec.ofNat 16 c)
  rw [BitVec.toNat_ofNat, Nat.mod_eq_of_lt h] at this
  rw [← this]
  exact (bitB (BitVec.ofNat 16 c)).isLt
theorem bitT_xor {a b : Nat} (ha : a < 65536) (hb : b < 65536) : bitT (a ^^^ b) = bitT a ^^^ bitT b := by
  have h := congrArg BitVec.toNat (bitB_xor (BitVec.ofNat 16 a) (BitVec.ofNat 16 b))
  rw [bitB_nat, BitVec.toNat_xor, BitVec.toNat_xor, bitB_nat, bitB_nat, BitVec.toNat_ofNat, BitVec.toNat_ofNat, Nat.mod_eq_of_lt ha, Nat.mod_eq_of_lt hb] at h
  exact h
theorem xor_cancel {a b c : Nat} (h : a ^^^ c = b ^^^ c) : a = b := by
  have := congrArg (· ^^^ c) h
  simpa [Nat.xor_assoc] using this
theorem bitT_inj {a b : Nat} (ha : a < 65536) (hb : b < 65536) (h : bitT a = bitT b) : a = b := by
  have hpar : ∀ n : Nat, n % 2 = 0 → (n ^^^ 4129) % 2 = 1 := fun n hn => by
    have := Nat.xor_mod_two_pow (a := n) (b := 4129) (n := 1)
    rw [show (2 : Nat) ^ 1 = 2 from rfl, hn] at this
    rw [this]; decide
  unfold bitT at h
  split at h <;> split at h
  · have := xor_cancel h; omega
  · have := hpar (a * 2 - 65536) (by omega); omega
  · have := hpar (b * 2 - 65536) (by omega); omega
  · omega
def stepsT : Nat → Nat → Nat
  | 0, c => c
  | k + 1, c => stepsT k (bitT c)
theorem stepsT_lt (k : Nat) : ∀ {c : Nat}, c < 65536 → stepsT k c < 65536 := by
  induction k with
  | zero => intro c h; exact h
  | succ k ih => intro c h; exact ih (bitT_lt h)
theorem stepsT_inj (k : Nat) : ∀ {a b : Nat}, a < 65536 → b < 65536 → stepsT k a = stepsT k b → a = b := by
  induction k with
  | zero => intro a b _ _ h; exact h
  | succ k ih => intro a b ha hb h; exact bitT_inj ha hb (ih (bitT_lt ha) (bitT_lt hb) h)
theorem stepsT_add (j k c : Nat) : stepsT (j + k) c = stepsT k (stepsT j c) := by
  induction j generalizing c with
  | zero => rw [Nat.zero_add]; rfl
  | succ j ih => rw [show j + 1 + k = (j + k) + 1 by omega]; exact ih (bitT c)
theorem xor_lt16 {a b : Nat} (ha : a < 65536) (hb : b < 65536) : a ^^^ b < 65536 := Nat.xor_lt_two_pow (n := 16) ha hb
theorem stepsT_xor (k : Nat) : ∀ {a b : Nat}, a < 65536 → b < 65536 → stepsT k (a ^^^ b) = stepsT k a ^^^ stepsT k b := by
  induction k with
  | zero => intro a b _ _; rfl
  | succ k ih => intro a b ha hb; rw [stepsT, bitT_xor ha hb, ih (bitT_lt ha) (bitT_lt hb)]; rfl
/-- One byte. -/
def byteT (c b : Nat) : Nat := stepsT 8 (c ^^^ (b * 256))
theorem byteT_lt {c b : Nat} (hc : c < 65536) (hb : b < 256) : byteT c b < 65536 := stepsT_lt 8 (xor_lt16 hc (by omega))
theorem byteT_inj_c {c d b : Nat} (hc : c < 65536) (hd : d < 65536) (hb : b < 256) (h : byteT c b = byteT d b) : c = d :=
  xor_cancel (stepsT_inj 8 (xor_lt16 hc (by omega)) (xor_lt16 hd (by omega)) h)
theorem byteT_inj_b {c a b : Nat} (hc : c < 65536) (ha : a < 256) (hb : b < 256) (h : byteT c a = byteT c b) : a = b := by
  have h2 := stepsT_inj 8 (xor_lt16 hc (by omega)) (xor_lt16 hc (by omega)) h
  rw [Nat.xor_comm c, Nat.xor_comm c] at h2
  have := xor_cancel h2
  omega
def foldU (f : Nat → Nat → Nat) : List UInt8 → Nat → Nat
  | [], c => c
  | x :: l, c => foldU f l (f c x.toNat)
theorem foldU_nil (f : Nat → Nat → Nat) (c : Nat) : foldU f [] c = c := rfl
theorem foldU_cons (f : Nat → Nat → Nat) (c : Nat) (x : UInt8) (l : List UInt8) : foldU f (x :: l) c = foldU f l (f c x.toNat) := rfl
def crcFrom (c : Nat) (l : List UInt8) : Nat := foldU byteT l c
def crcL (l : List UInt8) : Nat := crcFrom 65535 l
theorem byte_lt (x : UInt8) : x.toNat < 256 := by have := x.toNat_lt; omega
theorem crcFrom_nil (c : Nat) : crcFrom c [] = c := by unfold crcFrom; exact foldU_nil byteT c
theorem crcFrom_cons (c : Nat) (x : UInt8) (l : List UInt8) : crcFrom c (x :: l) = crcFrom (byteT c x.toNat) l := by unfold crcFrom; exact foldU_cons byteT c x l
theorem crcFrom_lt (l : List UInt8) : ∀ {c : Nat}, c < 65536 → crcFrom c l < 65536 := by
  induction l with
  | nil => intro c h; rw [crcFrom_nil]; exact h
  | cons x l ih => intro c h; rw [crcFrom_cons]; exact ih (byteT_lt h (byte_lt x))
theorem crcL_lt (l : List UInt8) : crcL l < 65536 := by
  have h : (65535 : Nat) < 65536 := by omega
  unfold crcL; exact crcFrom_lt l h
theorem crcFrom_inj (l : List UInt8) : ∀ {c d : Nat}, c < 65536 → d < 65536 → crcFrom c l = crcFrom d l → c = d := by
  induction l with
  | nil => intro c d _ _ h; rw [crcFrom_nil, crcFrom_nil] at h; exact h
  | cons x l ih => intro c d hc hd h; rw [crcFrom_cons, crcFrom_cons] at h; exact byteT_inj_c hc hd (byte_lt x) (ih (byteT_lt hc (byte_lt x)) (byteT_lt hd (byte_lt x)) h)
theorem crcFrom_append (c : Nat) (a b : List UInt8) : crcFrom c (a ++ b) = crcFrom (crcFrom c a) b := by
  induction a generalizing c with
  | nil => rw [List.nil_append, crcFrom_nil]
  | cons x a ih => rw [List.cons_append, crcFrom_cons, crcFrom_cons, ih]
/-- A changed byte changes the sum. -/
theorem crcL_changed (a r : List UInt8) {x y : UInt8} (h : x ≠ y) : crcL (a ++ x :: r) ≠ crcL (a ++ y :: r) := by
  unfold crcL
  rw [crcFrom_append, crcFrom_append, crcFrom_cons, crcFrom_cons]
  intro e
  have h0 : (65535 : Nat) < 65536 := by omega
  have hc := crcFrom_lt a h0
  have e2 := crcFrom_inj r (byteT_lt hc (byte_lt x)) (byteT_lt hc (byte_lt y)) e
  exact h (UInt8.toNat_inj.1 (byteT_inj_b hc (byte_lt x) (byte_lt y) e2))
theorem crcL_take (l : List UInt8) (i : Nat) (h : i < l.length) : crcL (l.take (i + 1)) = byteT (crcL (l.take i)) l[i].toNat := by
  unfold crcL
  rw [List.take_succ_eq_append_getElem h, crcFrom_append, crcFrom_cons, crcFrom_nil]
/-! half a byte at a time -/
/-- What half a byte comes to. -/
def halfT : List Nat := [0, 4129, 8258, 12387, 16516, 20645, 24774, 28903, 33032, 37161, 41290, 45419, 49548, 53677, 57806, 61935]
theorem steps_low {c : Nat} (h : c < 4096) : stepsT 4 c = c * 16 := by
  have h1 : bitT c = c * 2 := if_neg (by omega)
  have h2 : bitT (c * 2) = c * 4 := by unfold bitT; rw [if_neg (by omega)]; omega
  have h3 : bitT (c * 4) = c * 8 := by unfold bitT; rw [if_neg (by omega)]; omega
  have h4 : bitT (c * 8) = c * 16 := by unfold bitT; rw [if_neg (by omega)]; omega
  simp only [stepsT, h1, h2, h3, h4]
theorem steps_high {h : Nat} (hh : h < 16) : stepsT 4 (h * 4096) = halfT[h]'(by simp [halfT]; omega) :=
  (by decide : ∀ h : Fin 16, stepsT 4 (h.val * 4096) = halfT[h.val]'(by simp [halfT])) ⟨h, hh⟩
theorem split_xor {a b : Nat} (hb : b < 4096) : a * 4096 + b = (a * 4096) ^^^ b := by
  have h := Nat.two_pow_add_eq_or_of_lt (i := 12) (b := b) hb a
  rw [show (2 : Nat) ^ 12 = 4096 from rfl, Nat.mul_comm] at h
  rw [h]
  have hand : (a * 4096) &&& b = 0 := by
    apply Nat.eq_of_testBit_eq
    intro i
    rw [Nat.testBit_and, Nat.zero_testBit]
    by_cases hi : i < 12
    · have : (a * 4096).testBit i = false := by
        rw [show (4096 : Nat) = 2 ^ 12 from rfl, Nat.testBit_mul_two_pow]; simp; omega
      simp [this]
    · have : b.testBit i = false := Nat.testBit_lt_two_pow (Nat.lt_of_lt_of_le hb (by rw [show (4096 : Nat) = 2 ^ 12 from rfl]; exact Nat.pow_le_pow_right (by omega) (by omega)))
      simp [this]
  apply Nat.eq_of_testBit_eq
  intro i
  have hi := congrArg (fun n => n.testBit i) hand
  simp only [Nat.testBit_and, Nat.zero_testBit] at hi
  rw [Nat.testBit_or, Nat.testBit_xor]
  cases ha : (a * 4096).testBit i <;> cases hb2 : b.testBit i <;> simp_all
/-- Half a byte, out of the table. -/
theorem steps_half {c : Nat} (hc : c < 65536) : stepsT 4 c = (c % 4096 * 16) ^^^ halfT[c / 4096]'(by simp [halfT]; omega) := by
  have e : c = (c / 4096 * 4096) ^^^ (c % 4096) := by
    rw [← split_xor (Nat.mod_lt _ (by omega))]; omega
  have h1 := stepsT_xor 4 (a := c / 4096 * 4096) (b := c % 4096) (by omega) (by omega)
  rw [← e, steps_high (by omega), steps_low (Nat.mod_lt _ (by omega))] at h1
  rw [h1, Nat.xor_comm]
/-- A byte is its two halves, the higher one first. -/
theorem byteT_halves {c b : Nat} (hc : c < 65536) (hb : b < 256) : byteT c b = stepsT 4 (stepsT 4 (c ^^^ (b / 16 * 4096)) ^^^ (b % 16 * 4096)) := by
  unfold byteT
  rw [show (8 : Nat) = 4 + 4 from rfl, stepsT_add]
  have e : b * 256 = (b / 16 * 4096) ^^^ (b % 16 * 256) := by
    rw [← split_xor (by omega)]; omega
  have hl : stepsT 4 (b % 16 * 256) = b % 16 * 4096 := by rw [steps_low (by omega)]; omega
  rw [e, ← Nat.xor_assoc, stepsT_xor 4 (xor_lt16 hc (by omega)) (by omega), hl]
end Go.Proofs.YtfhcjlmolneooaaDoor
