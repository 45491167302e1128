/-
  Layer 2 (rice): the document's answers as plain functions on bits. They name no program.
-/
import Derived.Test.YteaelcimlmckjaaBits
namespace Go.Proofs.Yteaelcimlmckjaa

/-! what is written -/
def putE (n : Nat) (b : Int) : Int := if b < 0 ∨ 64 < b ∨ n / 2 ^ b.toNat ≠ 0 then 1 else 0
def putL (l : List Bool) (n : Nat) (b : Int) : List Bool := if putE n b = 0 then l ++ lowB n b.toNat else l
def code (n k : Nat) : List Bool := if n / 2 ^ k ≥ 24 then List.replicate 24 true ++ lowB n 64 else List.replicate (n / 2 ^ k) true ++ false :: lowB n k
def riceE (k : Int) : Int := if k < 0 ∨ 40 < k then 1 else 0
def riceL (l : List Bool) (n : Nat) (k : Int) : List Bool := if riceE k = 0 then l ++ code n k.toNat else l
theorem code_length (n k : Nat) : (code n k).length = if n / 2 ^ k ≥ 24 then 88 else n / 2 ^ k + 1 + k := by
  unfold code
  split
  · simp [lowB_length]
  · simp [lowB_length]; omega
theorem code_le (n k : Nat) (hk : k ≤ 40) : (code n k).length ≤ 88 := by
  rw [code_length]; split <;> omega

/-! what is read -/
/-- The next k bits behind a as a number. -/
def nextB (s : List UInt8) (a k : Nat) : Nat := num (((bitsOf s).drop a).take k)
theorem nextB_zero (s : List UInt8) (a : Nat) : nextB s a 0 = 0 := by simp [nextB, num]
theorem nextB_lt (s : List UInt8) (a k : Nat) : nextB s a k < 2 ^ k := by
  unfold nextB
  exact Nat.lt_of_lt_of_le (num_lt _) (Nat.pow_le_pow_right (by omega) (List.length_take_le _ _))
theorem nextB_add (s : List UInt8) (a b c : Nat) (h : a + b + c ≤ 8 * s.length) : nextB s a (b + c) = nextB s a b * 2 ^ c + nextB s (a + b) c := by
  unfold nextB
  rw [num_take_drop, List.length_take, List.length_drop, bitsOf_length, Nat.min_eq_left (by omega)]
theorem nextB_part (s : List UInt8) (a c : Nat) (h : a / 8 < s.length) (hc : a % 8 + c ≤ 8) : nextB s a c = ((s[a / 8].toNat <<< (a % 8)) % 256) >>> (8 - c) := by
  unfold nextB
  rw [bitsOf_part _ _ _ h hc, part_num _ _ _ hc]
def getE (s : List UInt8) (a : Nat) (b : Int) : Int := if b < 0 ∨ 64 < b then 1 else if (8 * s.length : Int) - a < b then 10 else 0
def getV (s : List UInt8) (a : Nat) (b : Int) : Nat := if getE s a b = 0 then nextB s a b.toNat else 0
def getA (s : List UInt8) (a : Nat) (b : Int) : Nat := if getE s a b = 0 then a + b.toNat else a
theorem get_ok {s : List UInt8} {a b : Nat} (hb : b ≤ 64) (h : a + b ≤ 8 * s.length) : getE s a b = 0 ∧ getV s a b = nextB s a b ∧ getA s a b = a + b := by
  have e : getE s a b = 0 := by unfold getE; rw [if_neg (by omega), if_neg (by omega)]
  unfold getV getA
  rw [if_pos e, if_pos e]
  exact ⟨e, rfl, rfl⟩
theorem get_arg {s : List UInt8} {a : Nat} {b : Int} (h : b < 0 ∨ 64 < b) : getE s a b = 1 ∧ getV s a b = 0 ∧ getA s a b = a := by
  have e : getE s a b = 1 := by unfold getE; rw [if_pos h]
  unfold getV getA
  rw [if_neg (by omega), if_neg (by omega)]
  exact ⟨e, rfl, rfl⟩
theorem get_short {s : List UInt8} {a b : Nat} (hb : b ≤ 64) (h : 8 * s.length < a + b) : getE s a b = 10 ∧ getV s a b = 0 ∧ getA s a b = a := by
  have e : getE s a b = 10 := by unfold getE; rw [if_neg (by omega), if_pos (by omega)]
  unfold getV getA
  rw [if_neg (by omega), if_neg (by omega)]
  exact ⟨e, rfl, rfl⟩

/-- How many bits 1 stand ahead, 24 at most. -/
def leadB (l : List Bool) : Nat := ((l.take 24).takeWhile id).length
theorem leadB_le (l : List Bool) : leadB l ≤ 24 ∧ leadB l ≤ l.length := by
  unfold leadB
  have h := (List.takeWhile_sublist (p := id) (l := l.take 24)).length_le
  rw [List.length_take] at h
  omega
theorem leadB_rep (i : Nat) (r : List Bool) (h : i ≤ 24) : leadB (List.replicate i true ++ r) = i + ((r.take (24 - i)).takeWhile id).length := by
  unfold leadB
  rw [List.take_append, List.length_replicate, List.take_of_length_le (by simp; omega), List.takeWhile_append_of_pos (by simp), List.length_append, List.length_replicate]
theorem leadB_stop (i : Nat) (r : List Bool) (h : i < 24) : leadB (List.replicate i true ++ false :: r) = i := by
  rw [leadB_rep i _ (by omega), show 24 - i = (23 - i) + 1 by omega]
  simp
theorem leadB_end (i : Nat) (h : i ≤ 24) : leadB (List.replicate i true) = i := by
  have := leadB_rep i [] h
  simpa using this
theorem leadB_full (r : List Bool) : leadB (List.replicate 24 true ++ r) = 24 := by
  rw [leadB_rep 24 r (by omega)]; simp
/-- A list by its first bits 1. -/
theorem ones_split {l : List Bool} {i : Nat} (h : l.take i = List.replicate i true) : l = List.replicate i true ++ l.drop i := by
  conv => lhs; rw [← List.take_append_drop i l, h]
theorem ones_next {l : List Bool} {i : Nat} (h : l.take i = List.replicate i true) (hi : l[i]? = some true) : l.take (i + 1) = List.replicate (i + 1) true := by
  rw [List.take_add_one, h, hi, List.replicate_succ']; rfl
theorem ones_stop {l : List Bool} {i : Nat} (h : l.take i = List.replicate i true) (hi : l[i]? = some false) (h24 : i < 24) : leadB l = i := by
  have hl := ones_split h
  obtain ⟨hlt, he⟩ := List.getElem?_eq_some_iff.1 hi
  rw [hl, List.drop_eq_getElem_cons hlt, he]
  exact leadB_stop i _ h24
theorem ones_end {l : List Bool} {i : Nat} (h : l.take i = List.replicate i true) (hi : l.length = i) (h24 : i ≤ 24) : leadB l = i := by
  rw [List.take_of_length_le (by omega)] at h
  rw [h]; exact leadB_end i h24
theorem ones_full {l : List Bool} (h : l.take 24 = List.replicate 24 true) : leadB l = 24 := by
  rw [ones_split h]; exact leadB_full _
/-- The first bits of a list, and the bit behind them, by 'leadB'. -/
theorem leadB_bits (l : List Bool) : l.take (leadB l) = List.replicate (leadB l) true ∧ (leadB l < 24 → leadB l < l.length → l[leadB l]? = some false) := by
  have key : ∀ (m : Nat) (l : List Bool), (l.take m).takeWhile id = List.replicate ((l.take m).takeWhile id).length true ∧ l.take ((l.take m).takeWhile id).length = List.replicate ((l.take m).takeWhile id).length true ∧ (((l.take m).takeWhile id).length < m → ((l.take m).takeWhile id).length < l.length → l[((l.take m).takeWhile id).length]? = some false) := by
    intro m
    induction m with
    | zero => intro l; simp
    | succ m ih =>
      intro l
      cases l with
      | nil => simp
      | cons b l =>
        cases b with
        | false => simp
        | true =>
          obtain ⟨h1, h2, h3⟩ := ih l
          simp only [List.take_succ_cons, id, List.takeWhile_cons_of_pos, List.length_cons, List.replicate_succ]
          refine ⟨by rw [← h1], by rw [h2], fun a b => ?_⟩
          rw [List.getElem?_cons_succ]
          exact h3 (by omega) (by omega)
  exact ⟨(key 24 l).2.1, (key 24 l).2.2⟩

def onesE (l : List Bool) : Int := if leadB l < 24 ∧ l.length ≤ leadB l then 10 else 0
def onesV (l : List Bool) : Nat := if onesE l = 0 then leadB l else 0
def onesN (l : List Bool) : Nat := if leadB l = 24 then 24 else leadB l + 1
/-- Rice(k) over the bits that are left: error, number, how many it takes. -/
def decE (l : List Bool) (k : Int) : Int :=
  if k < 0 ∨ 40 < k then 1 else
  if leadB l = 24 then (if l.length < 88 then 10 else if num ((l.drop 24).take 64) / 2 ^ k.toNat < 24 then 11 else 0)
  else if l.length < leadB l + 1 + k.toNat then 10 else 0
def decV (l : List Bool) (k : Int) : Nat := if decE l k = 0 then (if leadB l = 24 then num ((l.drop 24).take 64) else leadB l * 2 ^ k.toNat + num ((l.drop (leadB l + 1)).take k.toNat)) else 0
def decN (l : List Bool) (k : Int) : Nat := if decE l k = 0 then (if leadB l = 24 then 88 else leadB l + 1 + k.toNat) else 0
/-- The document's End. -/
def endE (l : List Bool) : Int := if l.length ≥ 8 ∨ num l ≠ 0 then 11 else 0
/-- What is written is read back. -/
theorem dec_code (n k : Nat) (r : List Bool) (hn : n < 18446744073709551616) (hk : k ≤ 40) : decE (code n k ++ r) k = 0 ∧ decV (code n k ++ r) k = n ∧ decN (code n k ++ r) k = (code n k).length := by
  have hkk : ¬ ((k : Int) < 0 ∨ 40 < (k : Int)) := by omega
  by_cases h : n / 2 ^ k ≥ 24
  · have hc : code n k = List.replicate 24 true ++ lowB n 64 := by unfold code; rw [if_pos h]
    have hl : leadB (code n k ++ r) = 24 := by rw [hc, List.append_assoc]; exact leadB_full _
    have hx : ((code n k ++ r).drop 24).take 64 = lowB n 64 := by
      rw [hc, List.append_assoc, List.drop_left' (by simp), List.take_left' (by rw [lowB_length])]
    have hn' : num (lowB n 64) = n := by rw [num_lowB]; exact Nat.mod_eq_of_lt hn
    have hlen : 88 ≤ (code n k ++ r).length := by rw [List.length_append, hc, List.length_append, lowB_length]; simp
    have e : decE (code n k ++ r) k = 0 := by
      unfold decE
      rw [if_neg hkk, if_pos hl, if_neg (by omega), hx, hn', Int.toNat_natCast, if_neg (by omega)]
    refine ⟨e, ?_, ?_⟩
    · unfold decV; rw [if_pos e, if_pos hl, hx, hn']
    · unfold decN; rw [if_pos e, if_pos hl, code_length, if_pos h]
  · have hc : code n k = List.replicate (n / 2 ^ k) true ++ false :: lowB n k := by unfold code; rw [if_neg h]
    have hl : leadB (code n k ++ r) = n / 2 ^ k := by rw [hc, List.append_assoc, List.cons_append]; exact leadB_stop _ _ (by omega)
    have hx : ((code n k ++ r).drop (n / 2 ^ k + 1)).take k = lowB n k := by
      rw [hc, List.append_assoc, List.cons_append, show List.replicate (n / 2 ^ k) true ++ false :: (lowB n k ++ r) = (List.replicate (n / 2 ^ k) true ++ [false]) ++ (lowB n k ++ r) by simp]
      rw [List.drop_left' (by simp), List.take_left' (by rw [lowB_length])]
    have hlen : (code n k ++ r).length = n / 2 ^ k + 1 + k + r.length := by rw [List.length_append, code_length, if_neg h]
    have e : decE (code n k ++ r) k = 0 := by
      unfold decE
      rw [if_neg hkk, if_neg (by omega), hl, Int.toNat_natCast, if_neg (by omega)]
    refine ⟨e, ?_, ?_⟩
    · unfold decV
      rw [if_pos e, if_neg (by omega), hl, Int.toNat_natCast, hx, num_lowB]
      exact Nat.div_add_mod' n (2 ^ k)
    · unfold decN
      rw [if_pos e, if_neg (by omega), hl, Int.toNat_natCast, code_length, if_neg h]
theorem num_low_back (n b : Nat) (r : List Bool) (h : n / 2 ^ b = 0) : num ((lowB n b ++ r).take b) = n := by
  rw [List.take_left' (by rw [lowB_length]), num_lowB]
  exact Nat.mod_eq_of_lt ((Nat.div_eq_zero_iff_lt (Nat.two_pow_pos b)).1 h)
theorem num_false (n : Nat) : num (List.replicate n false) = 0 := by
  induction n with
  | zero => rfl
  | succ n ih => rw [List.replicate_succ', num_snoc, ih]; rfl
theorem num_zero_iff (l : List Bool) : num l = 0 ↔ ∀ (i : Nat) (b : Bool), l[i]? = some b → b = false := by
  induction l with
  | nil => simp [num]
  | cons b l ih =>
    rw [show b :: l = [b] ++ l from rfl, num_append]
    constructor
    · intro h i c hc
      have hp := Nat.two_pow_pos l.length
      have h1 : num [b] = 0 := by
        rcases Nat.eq_zero_or_pos (num [b]) with h0 | h0
        · exact h0
        · have := Nat.mul_le_mul_right (2 ^ l.length) h0; omega
      have h2 : num l = 0 := by omega
      cases i with
      | zero => cases b <;> simp_all [num]
      | succ i => exact ih.1 h2 i c (by simpa using hc)
    · intro h
      have h1 : num l = 0 := ih.2 fun i c hc => h (i + 1) c (by simpa using hc)
      have h2 : b = false := h 0 b (by simp)
      rw [h1, h2]; simp [num]
end Go.Proofs.Yteaelcimlmckjaa
