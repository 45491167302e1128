/-
  Plain lemmas on bits: a number's lowest bits, bits as a number, bits in bytes. They name no program.
-/
import Derived.Test.YteaelcimlmckjaaBase
namespace Go.Proofs.Yteaelcimlmckjaa
/-! bits, highest first -/
def lowB (n : Nat) : Nat → List Bool
  | 0 => []
  | k + 1 => n.testBit k :: lowB n k
theorem lowB_length (n k : Nat) : (lowB n k).length = k := by
  induction k with
  | zero => rfl
  | succ k ih => simp [lowB, ih]
theorem lowB_get (n k i : Nat) (h : i < k) : (lowB n k)[i]? = some (n.testBit (k - 1 - i)) := by
  induction k generalizing i with
  | zero => omega
  | succ k ih =>
    cases i with
    | zero => simp [lowB]
    | succ i =>
      simp only [lowB, List.getElem?_cons_succ]
      rw [ih i (by omega)]
      congr 2; omega
theorem lowB_out (n k i : Nat) (h : k ≤ i) : (lowB n k)[i]? = none := List.getElem?_eq_none (by rw [lowB_length]; exact h)
theorem lowB_split (n b c : Nat) (h : c ≤ b) : lowB n b = lowB (n >>> (b - c)) c ++ lowB n (b - c) := by
  apply List.ext_getElem?
  intro i
  by_cases h1 : i < c
  · rw [List.getElem?_append_left (by rw [lowB_length]; exact h1), lowB_get _ _ _ (by omega), lowB_get _ _ _ h1, Nat.testBit_shiftRight]
    congr 2; omega
  · rw [List.getElem?_append_right (by rw [lowB_length]; omega), lowB_length]
    by_cases h2 : i < b
    · rw [lowB_get _ _ _ h2, lowB_get _ _ _ (by omega)]; congr 2; omega
    · rw [lowB_out _ _ _ (by omega), lowB_out _ _ _ (by omega)]
theorem lowB_congr (n m k : Nat) (h : ∀ i, i < k → n.testBit i = m.testBit i) : lowB n k = lowB m k := by
  induction k with
  | zero => rfl
  | succ k ih => simp only [lowB]; rw [h k (by omega), ih (fun i hi => h i (by omega))]
theorem lowB_ones (k : Nat) : lowB (2 ^ k - 1) k = List.replicate k true := by
  apply List.ext_getElem?
  intro i
  by_cases h : i < k
  · rw [lowB_get _ _ _ h, List.getElem?_replicate, if_pos h, Nat.testBit_two_pow_sub_one]; simp; omega
  · rw [lowB_out _ _ _ (by omega), List.getElem?_replicate, if_neg h]
/-- Bits as a number, the first one the highest. -/
def num (l : List Bool) : Nat := l.foldl (fun a b => 2 * a + b.toNat) 0
theorem num_from (l : List Bool) (a : Nat) : l.foldl (fun a b => 2 * a + b.toNat) a = a * 2 ^ l.length + num l := by
  induction l generalizing a with
  | nil => simp [num]
  | cons b l ih =>
    have h1 := ih (2 * a + b.toNat)
    have h2 := ih (2 * 0 + b.toNat)
    have h3 : num (b :: l) = (2 * 0 + b.toNat) * 2 ^ l.length + num l := h2
    rw [List.foldl_cons, h1, h3, List.length_cons, Nat.pow_succ, Nat.add_mul, Nat.add_mul, Nat.mul_comm 2 a, Nat.mul_assoc, Nat.mul_comm 2 (2 ^ l.length)]
    omega
theorem num_append (a b : List Bool) : num (a ++ b) = num a * 2 ^ b.length + num b := by
  show List.foldl _ 0 (a ++ b) = _
  rw [List.foldl_append, num_from b]; rfl
theorem num_snoc (a : List Bool) (b : Bool) : num (a ++ [b]) = 2 * num a + b.toNat := by
  rw [num_append]; simp [num]; omega
theorem num_lt (l : List Bool) : num l < 2 ^ l.length := by
  induction l with
  | nil => simp [num]
  | cons b l ih =>
    rw [show b :: l = [b] ++ l from rfl, num_append, List.length_append]
    have : num [b] ≤ 1 := by cases b <;> simp [num]
    have : num [b] * 2 ^ l.length ≤ 1 * 2 ^ l.length := Nat.mul_le_mul_right _ this
    rw [show ([b] : List Bool).length + l.length = l.length + 1 by simp; omega, Nat.pow_succ]
    omega
theorem num_lowB (n k : Nat) : num (lowB n k) = n % 2 ^ k := by
  induction k with
  | zero => simp [lowB, num, Nat.mod_one]
  | succ k ih =>
    show num ([n.testBit k] ++ lowB n k) = _
    rw [num_append, ih, lowB_length, Nat.mod_pow_succ, Nat.testBit_eq_decide_div_mod_eq]
    rcases Nat.mod_two_eq_zero_or_one (n / 2 ^ k) with h | h <;> rw [h] <;> simp [num] <;> omega
theorem num_nil : num [] = 0 := rfl
theorem lowB_num (l : List Bool) : lowB (num l) l.length = l := by
  apply List.ext_getElem?
  intro i
  by_cases h : i < l.length
  · rw [lowB_get _ _ _ h]
    have hs : l = l.take (i + 1) ++ l.drop (i + 1) := (List.take_append_drop _ _).symm
    have ht : l.take (i + 1) = l.take i ++ [l[i]] := by rw [List.take_succ_eq_append_getElem h]
    have hd : (l.drop (i + 1)).length = l.length - 1 - i := by rw [List.length_drop]; omega
    have hn : num l = num (l.take (i + 1)) * 2 ^ (l.length - 1 - i) + num (l.drop (i + 1)) := by
      conv => lhs; rw [hs]
      rw [num_append, hd]
    have hlt := num_lt (l.drop (i + 1))
    rw [hd] at hlt
    rw [hn, Nat.testBit_eq_decide_div_mod_eq, Nat.mul_comm, Nat.mul_add_div (Nat.two_pow_pos _), Nat.div_eq_of_lt hlt, ht, num_snoc, List.getElem?_eq_getElem h]
    cases l[i] <;> simp <;> omega
  · rw [lowB_out _ _ _ (by omega), List.getElem?_eq_none (by omega)]

/-! bytes of bits -/
def m8 (a b c d e f g h : Bool) : Nat := a.toNat * 128 + b.toNat * 64 + c.toNat * 32 + d.toNat * 16 + e.toNat * 8 + f.toNat * 4 + g.toNat * 2 + h.toNat
theorem m8_bit : ∀ (a b c d e f g h : Bool) (i : Fin 8), (m8 a b c d e f g h).testBit i.val = [h, g, f, e, d, c, b, a][i.val]'(i.isLt) := by decide +kernel
theorem m8_lt (a b c d e f g h : Bool) : m8 a b c d e f g h < 256 := by
  unfold m8
  have := Bool.toNat_le a; have := Bool.toNat_le b; have := Bool.toNat_le c; have := Bool.toNat_le d; have := Bool.toNat_le e; have := Bool.toNat_le f; have := Bool.toNat_le g; have := Bool.toNat_le h
  omega
def byteAt (l : List Bool) (j : Nat) : Nat :=
  m8 (l.getD (8 * j) false) (l.getD (8 * j + 1) false) (l.getD (8 * j + 2) false) (l.getD (8 * j + 3) false) (l.getD (8 * j + 4) false) (l.getD (8 * j + 5) false) (l.getD (8 * j + 6) false) (l.getD (8 * j + 7) false)
theorem byteAt_lt (l : List Bool) (j : Nat) : byteAt l j < 256 := m8_lt ..
theorem byteAt_bit (l : List Bool) (j i : Nat) (h : i < 8) : (byteAt l j).testBit i = l.getD (8 * j + (7 - i)) false := by
  unfold byteAt
  rw [m8_bit _ _ _ _ _ _ _ _ ⟨i, h⟩]
  match i, h with
  | 0, _ => rfl
  | 1, _ => rfl
  | 2, _ => rfl
  | 3, _ => rfl
  | 4, _ => rfl
  | 5, _ => rfl
  | 6, _ => rfl
  | 7, _ => rfl
theorem u8_ext {a b : Nat} (ha : a < 256) (hb : b < 256) (h : ∀ i, i < 8 → a.testBit i = b.testBit i) : a = b := by
  apply Nat.eq_of_testBit_eq
  intro i
  by_cases hi : i < 8
  · exact h i hi
  · rw [Nat.testBit_lt_two_pow (Nat.lt_of_lt_of_le ha (show 256 ≤ 2 ^ i from Nat.pow_le_pow_right (n := 2) (by omega) (show 8 ≤ i by omega))), Nat.testBit_lt_two_pow (Nat.lt_of_lt_of_le hb (show 256 ≤ 2 ^ i from Nat.pow_le_pow_right (n := 2) (by omega) (show 8 ≤ i by omega)))]
theorem byteAt_zero (l : List Bool) (j : Nat) (h : l.length ≤ 8 * j) : byteAt l j = 0 := by
  apply u8_ext (byteAt_lt _ _) (by omega)
  intro i hi
  rw [byteAt_bit _ _ _ hi, List.getD_eq_getElem?_getD, List.getElem?_eq_none (by omega)]; simp
theorem byteAt_old (l m : List Bool) (j : Nat) (h : 8 * j + 8 ≤ l.length) : byteAt (l ++ m) j = byteAt l j := by
  apply u8_ext (byteAt_lt _ _) (byteAt_lt _ _)
  intro i hi
  rw [byteAt_bit _ _ _ hi, byteAt_bit _ _ _ hi, List.getD_eq_getElem?_getD, List.getD_eq_getElem?_getD, List.getElem?_append_left (by omega)]
/-- What the program's loop puts into the last byte. -/
theorem byteAt_put (l : List Bool) (x c : Nat) (_h0 : 0 < c) (hc : l.length % 8 + c ≤ 8) :
    byteAt (l ++ lowB x c) (l.length / 8) = byteAt l (l.length / 8) ||| (((x % 256) <<< (8 - c)) % 256) >>> (l.length % 8) := by
  have hX : (((x % 256) <<< (8 - c)) % 256) >>> (l.length % 8) < 256 := by
    rw [Nat.shiftRight_eq_div_pow]
    exact Nat.lt_of_le_of_lt (Nat.div_le_self _ _) (Nat.mod_lt _ (by omega))
  apply u8_ext (byteAt_lt _ _) (Nat.or_lt_two_pow (n := 8) (byteAt_lt _ _) hX)
  intro i hi
  rw [Nat.testBit_or, byteAt_bit _ _ _ hi, byteAt_bit _ _ _ hi, Nat.testBit_shiftRight, show (256 : Nat) = 2 ^ 8 from rfl, Nat.testBit_mod_two_pow, Nat.testBit_shiftLeft, Nat.testBit_mod_two_pow]
  have hd : 8 * (l.length / 8) + l.length % 8 = l.length := Nat.div_add_mod _ _
  rw [List.getD_eq_getElem?_getD, List.getD_eq_getElem?_getD]
  by_cases h1 : 7 - i < l.length % 8
  · rw [List.getElem?_append_left (by omega)]
    have : decide (l.length % 8 + i < 8) = false := by simp; omega
    rw [this]; simp
  · rw [List.getElem?_append_right (by omega)]
    have e1 : l[8 * (l.length / 8) + (7 - i)]? = none := List.getElem?_eq_none (by omega)
    have e2 : decide (l.length % 8 + i < 8) = true := by simp; omega
    rw [e1, e2]
    by_cases h2 : 7 - i < l.length % 8 + c
    · rw [lowB_get _ _ _ (by omega)]
      have e3 : decide (l.length % 8 + i ≥ 8 - c) = true := by simp; omega
      have e4 : decide (l.length % 8 + i - (8 - c) < 8) = true := by simp; omega
      rw [e3, e4]
      simp
      congr 1; omega
    · rw [lowB_out _ _ _ (by omega)]
      have e3 : decide (l.length % 8 + i ≥ 8 - c) = false := by simp; omega
      rw [e3]; simp
/-- The first m bytes of bits. -/
def packN (m : Nat) (l : List Bool) : List UInt8 := (List.range m).map fun j => UInt8.ofNat (byteAt l j)
def packB (l : List Bool) : List UInt8 := packN ((l.length + 7) / 8) l
theorem packB_length (l : List Bool) : (packB l).length = (l.length + 7) / 8 := by simp [packB, packN]
def bitsOf (s : List UInt8) : List Bool := s.flatMap fun b => lowB b.toNat 8
theorem bitsOf_cons (b : UInt8) (s : List UInt8) : bitsOf (b :: s) = lowB b.toNat 8 ++ bitsOf s := rfl
theorem bitsOf_length (s : List UInt8) : (bitsOf s).length = 8 * s.length := by
  induction s with
  | nil => rfl
  | cons b s ih => rw [bitsOf_cons, List.length_append, ih, lowB_length]; simp; omega
theorem bitsOf_get (s : List UInt8) (i : Nat) (h : i / 8 < s.length) : (bitsOf s)[i]? = some (s[i / 8].toNat.testBit (7 - i % 8)) := by
  induction s generalizing i with
  | nil => simp at h
  | cons b s ih =>
    rw [bitsOf_cons]
    by_cases h1 : i < 8
    · rw [List.getElem?_append_left (by rw [lowB_length]; exact h1), lowB_get _ _ _ h1]
      have e : i / 8 = 0 := by omega
      simp only [e, List.getElem_cons_zero]
      congr 2; omega
    · obtain ⟨k, rfl⟩ : ∃ k, i = k + 8 := ⟨i - 8, by omega⟩
      have e : (k + 8) / 8 = k / 8 + 1 := by omega
      rw [List.getElem?_append_right (by rw [lowB_length]; omega), lowB_length, show k + 8 - 8 = k by omega, ih k (by rw [List.length_cons] at h; omega)]
      simp only [e, List.getElem_cons_succ]
      congr 2; omega
theorem bitsOf_packB (l : List Bool) : bitsOf (packB l) = l ++ List.replicate (8 * ((l.length + 7) / 8) - l.length) false := by
  apply List.ext_getElem?
  intro i
  have hl := packB_length l
  by_cases h : i / 8 < (packB l).length
  · rw [bitsOf_get _ _ h]
    have hi : (packB l)[i / 8].toNat = byteAt l (i / 8) := by
      simp only [packB, packN, List.getElem_map, List.getElem_range]
      rw [UInt8.toNat_ofNat']; exact Nat.mod_eq_of_lt (byteAt_lt _ _)
    rw [hi, byteAt_bit _ _ _ (by omega), show 8 * (i / 8) + (7 - (7 - i % 8)) = i by omega, List.getD_eq_getElem?_getD]
    by_cases h2 : i < l.length
    · rw [List.getElem?_append_left h2, List.getElem?_eq_getElem h2]; rfl
    · rw [List.getElem?_append_right (by omega), List.getElem?_eq_none (by omega), List.getElem?_replicate, if_pos (by omega)]; rfl
  · rw [List.getElem?_eq_none (by rw [bitsOf_length]; omega), List.getElem?_append_right (by omega), List.getElem?_replicate, if_neg (by omega)]

/-- What the reader's loop takes out of one byte. -/
theorem part_num (q u c : Nat) (hc : u + c ≤ 8) : ((q <<< u) % 256) >>> (8 - c) = num (((lowB q 8).drop u).take c) := by
  have e : ((lowB q 8).drop u).take c = lowB (q >>> (8 - u - c)) c := by
    apply List.ext_getElem?
    intro i
    by_cases h : i < c
    · rw [List.getElem?_take, if_pos h, List.getElem?_drop, lowB_get _ _ _ (by omega), lowB_get _ _ _ h, Nat.testBit_shiftRight]
      congr 2; omega
    · rw [List.getElem?_take, if_neg h, lowB_out _ _ _ (by omega)]
  rw [e, num_lowB]
  apply Nat.eq_of_testBit_eq
  intro i
  rw [Nat.testBit_shiftRight, show (256 : Nat) = 2 ^ 8 from rfl, Nat.testBit_mod_two_pow, Nat.testBit_shiftLeft, Nat.testBit_mod_two_pow, Nat.testBit_shiftRight]
  by_cases h : i < c
  · have e1 : decide (8 - c + i < 8) = true := by simp; omega
    have e2 : decide (8 - c + i ≥ u) = true := by simp; omega
    have e3 : decide (i < c) = true := by simpa using h
    rw [e1, e2, e3]; simp; congr 1; omega
  · have e1 : decide (8 - c + i < 8) = false := by simp; omega
    have e3 : decide (i < c) = false := by simpa using h
    rw [e1, e3]; simp
theorem num_take_drop (l : List Bool) (a b c : Nat) : num ((l.drop a).take (b + c)) = num ((l.drop a).take b) * 2 ^ ((l.drop (a + b)).take c).length + num ((l.drop (a + b)).take c) := by
  rw [← num_append, ← List.drop_drop, ← List.take_add]
theorem or_low (a c p : Nat) (hp : p < 2 ^ c) : a <<< c ||| p = a * 2 ^ c + p := by
  rw [Nat.shiftLeft_eq, Nat.mul_comm, Nat.two_pow_add_eq_or_of_lt hp]
/-- One byte's part of a text's bits. -/
theorem bitsOf_part (s : List UInt8) (a c : Nat) (h : a / 8 < s.length) (hc : a % 8 + c ≤ 8) : ((bitsOf s).drop a).take c = ((lowB s[a / 8].toNat 8).drop (a % 8)).take c := by
  apply List.ext_getElem?
  intro i
  by_cases hi : i < c
  · have e : (a + i) / 8 = a / 8 := by omega
    rw [List.getElem?_take, if_pos hi, List.getElem?_drop, bitsOf_get _ _ (by rw [e]; exact h), List.getElem?_take, if_pos hi, List.getElem?_drop, lowB_get _ _ _ (by omega)]
    simp only [e]
    congr 2; omega
  · rw [List.getElem?_take, if_neg hi, List.getElem?_take, if_neg hi]
end Go.Proofs.Yteaelcimlmckjaa
