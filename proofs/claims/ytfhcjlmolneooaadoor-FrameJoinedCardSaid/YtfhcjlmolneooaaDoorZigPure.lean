/-
  Plain mathematics of layer 1: integers in groups of seven bits; the zigzag fold. No program in sight.
-/
import Derived.Test.YtfhcjlmolneooaaDoorBase
import Derived.Lib.BitFns
namespace Go.Proofs.YtfhcjlmolneooaaDoor
open Go.RowKit

def fold (n : Int) : Int := if n < 0 then -2 * n - 1 else 2 * n
def unfold (k : Int) : Int := if k % 2 = 0 then k / 2 else -(k / 2) - 1
theorem unfold_fold (n : Int) : unfold (fold n) = n := by unfold unfold fold; split <;> split <;> omega
theorem fold_unfold (k : Int) (h : 0 ≤ k) : fold (unfold k) = k := by unfold unfold fold; split <;> split <;> omega
theorem fold_range (n : Int) (h1 : -9223372036854775808 ≤ n) (h2 : n ≤ 9223372036854775807) : 0 ≤ fold n ∧ fold n ≤ 18446744073709551615 := by
  unfold fold; split <;> omega
theorem unfold_range (k : Int) (h1 : 0 ≤ k) (h2 : k ≤ 18446744073709551615) : -9223372036854775808 ≤ unfold k ∧ unfold k ≤ 9223372036854775807 := by
  unfold unfold; split <;> omega
theorem fold_inj {a b : Int} (h : fold a = fold b) : a = b := by rw [← unfold_fold a, h, unfold_fold]

/-- The bytes of an integer: groups of seven bits, the lowest first. -/
def uv (n : Nat) : List UInt8 :=
  if n < 128 then [UInt8.ofNat n] else UInt8.ofNat (n % 128 + 128) :: uv (n / 128)
  termination_by n
  decreasing_by omega
theorem uv_lt {n : Nat} (h : n < 128) : uv n = [UInt8.ofNat n] := by rw [uv, if_pos h]
theorem uv_ge {n : Nat} (h : ¬ n < 128) : uv n = UInt8.ofNat (n % 128 + 128) :: uv (n / 128) := by rw [uv, if_neg h]

def val : List UInt8 → Nat
  | [] => 0
  | b :: t => b.toNat % 128 + 128 * val t
/-- How many bytes ahead have the highest bit set. -/
def lead : List UInt8 → Nat
  | [] => 0
  | b :: t => if b.toNat < 128 then 0 else lead t + 1

theorem toNat_ofNat_lt {n : Nat} (h : n < 256) : (UInt8.ofNat n).toNat = n := by simp [UInt8.toNat_ofNat']; omega

theorem uv_ind {P : Nat → Prop} (h1 : ∀ n, n < 128 → P n) (h2 : ∀ n, ¬ n < 128 → P (n / 128) → P n) (n : Nat) : P n := by
  induction n using Nat.strongRecOn with
  | _ n ih =>
    by_cases h : n < 128
    · exact h1 n h
    · exact h2 n h (ih _ (by omega))

theorem val_uv (n : Nat) : val (uv n) = n := by
  induction n using uv_ind with
  | h1 n h => rw [uv_lt h]; simp only [val]; rw [toNat_ofNat_lt (by omega)]; omega
  | h2 n h ih => rw [uv_ge h]; simp only [val]; rw [ih, toNat_ofNat_lt (by omega)]; omega
theorem uv_inj {a b : Nat} (h : uv a = uv b) : a = b := by rw [← val_uv a, h, val_uv]
theorem uv_pos (n : Nat) : 1 ≤ (uv n).length := by rw [uv]; split <;> simp
theorem uv_len_le (k n : Nat) (h : n < 128 ^ (k + 1)) : (uv n).length ≤ k + 1 := by
  induction k generalizing n with
  | zero => rw [uv_lt (by simpa using h)]; simp
  | succ k ih =>
    by_cases h1 : n < 128
    · rw [uv_lt h1]; simp
    · rw [uv_ge h1]
      have := ih (n / 128) (by
        have : n < 128 ^ (k + 1) * 128 := by rw [← Nat.pow_succ]; exact h
        exact Nat.div_lt_of_lt_mul (by rw [Nat.mul_comm]; exact this))
      simp; omega
theorem uv_len10 {n : Nat} (h : n < 18446744073709551616) : (uv n).length ≤ 10 := uv_len_le 9 n (by omega)
theorem uv_len_ge (k n : Nat) (h : k + 1 < (uv n).length) : 128 ^ (k + 1) ≤ n := by
  rcases Nat.lt_or_ge n (128 ^ (k + 1)) with h1 | h1
  · have := uv_len_le k n h1; omega
  · exact h1
theorem lead_uv (n : Nat) (r : List UInt8) : lead (uv n ++ r) = (uv n).length - 1 := by
  induction n using uv_ind with
  | h1 n h => rw [uv_lt h]; simp only [List.cons_append, List.nil_append, lead]; rw [toNat_ofNat_lt (by omega), if_pos h]; simp
  | h2 n h ih =>
    rw [uv_ge h]; simp only [List.cons_append, lead]; rw [toNat_ofNat_lt (by omega), if_neg (by omega), ih]
    have := uv_pos (n / 128); simp; omega
theorem lead_le (l : List UInt8) : lead l ≤ l.length := by
  induction l with
  | nil => simp [lead]
  | cons b t ih => simp only [lead]; split <;> simp; omega
theorem lead_lt {l : List UInt8} {i : Nat} (h : i < lead l) : ∃ b, l[i]? = some b ∧ 128 ≤ b.toNat := by
  induction l generalizing i with
  | nil => simp [lead] at h
  | cons b t ih =>
    simp only [lead] at h
    split at h
    · omega
    · cases i with
      | zero => exact ⟨b, rfl, by omega⟩
      | succ i => simpa using ih (i := i) (by omega)
theorem lead_at {l : List UInt8} (h : lead l < l.length) : ∃ b, l[lead l]? = some b ∧ b.toNat < 128 := by
  induction l with
  | nil => simp [lead] at h
  | cons b t ih =>
    simp only [lead] at h ⊢
    split at h
    · rename_i hb; rw [if_pos hb]; exact ⟨b, rfl, hb⟩
    · rename_i hb; rw [if_neg hb]; simpa using ih (by simpa using h)
/-- What a scan that has met only bytes with the bit, and then one without, has met. -/
theorem lead_eq {l : List UInt8} {k : Nat} {b : UInt8} (h : ∀ i, i < k → ∃ c, l[i]? = some c ∧ 128 ≤ c.toNat) (hk : l[k]? = some b) (hb : b.toNat < 128) : lead l = k := by
  rcases Nat.lt_trichotomy (lead l) k with h1 | h1 | h1
  · obtain ⟨c, hc, hc'⟩ := h _ h1
    have hlt : lead l < l.length := (List.getElem?_eq_some_iff.1 hc).1
    obtain ⟨d, hd, hd'⟩ := lead_at hlt
    rw [hc] at hd; cases hd; omega
  · exact h1
  · obtain ⟨c, hc, hc'⟩ := lead_lt h1
    rw [hk] at hc; cases hc; omega
theorem lead_ge {l : List UInt8} {k : Nat} (h : ∀ i, i < k → ∃ c, l[i]? = some c ∧ 128 ≤ c.toNat) : k ≤ lead l := by
  rcases Nat.lt_or_ge (lead l) k with h1 | h1
  · obtain ⟨c, hc, hc'⟩ := h _ h1
    obtain ⟨d, hd, hd'⟩ := lead_at (List.getElem?_eq_some_iff.1 hc).1
    rw [hc] at hd; cases hd; omega
  · exact h1
theorem val_append (a b : List UInt8) : val (a ++ b) = val a + 128 ^ a.length * val b := by
  induction a with
  | nil => simp [val]
  | cons x t ih => simp only [List.cons_append, val, ih, List.length_cons, Nat.pow_succ]; rw [Nat.mul_add, Nat.mul_comm (128 ^ t.length) 128, Nat.mul_assoc]; omega
theorem val_lt (l : List UInt8) : val l < 128 ^ l.length := by
  induction l with
  | nil => simp [val]
  | cons x t ih => simp only [val, List.length_cons, Nat.pow_succ]; omega
theorem val_take_succ {l : List UInt8} {k : Nat} {b : UInt8} (h : l[k]? = some b) : val (l.take (k + 1)) = val (l.take k) + 128 ^ k * (b.toNat % 128) := by
  obtain ⟨hk, rfl⟩ := List.getElem?_eq_some_iff.1 h
  rw [List.take_succ_eq_append_getElem hk, val_append, List.length_take, Nat.min_eq_left (by omega)]
  simp [val]
/-- The shape of what is read: bytes with the bit, then one without. -/
def formed (p : List UInt8) (b : UInt8) : Prop := (∀ c ∈ p, 128 ≤ c.toNat) ∧ b.toNat < 128
theorem uv_val {p : List UInt8} {b : UInt8} (h : formed p b) (hz : p = [] ∨ b.toNat ≠ 0) : uv (val (p ++ [b])) = p ++ [b] := by
  induction p with
  | nil =>
    have hb := h.2
    simp only [List.nil_append, val]
    rw [uv_lt (by omega)]
    congr 1
    apply UInt8.toNat_inj.1
    rw [toNat_ofNat_lt (by omega)]; omega
  | cons c t ih =>
    have hc := h.1 c (by simp)
    have hcl := c.toNat_lt
    have hb0 : b.toNat ≠ 0 := by rcases hz with hz | hz; · cases hz
                                 · exact hz
    have e := ih ⟨fun x hx => h.1 x (by simp [hx]), h.2⟩ (.inr hb0)
    have hpos : 0 < val (t ++ [b]) := by
      rw [val_append]
      have : 0 < 128 ^ t.length := Nat.pow_pos (by omega)
      have hb := h.2
      have : 0 < val [b] := by simp only [val]; omega
      have := Nat.mul_pos ‹0 < 128 ^ t.length› this
      omega
    have hv : val (c :: t ++ [b]) = c.toNat % 128 + 128 * val (t ++ [b]) := rfl
    rw [uv_ge (by rw [hv]; omega), hv]
    rw [show (c.toNat % 128 + 128 * val (t ++ [b])) / 128 = val (t ++ [b]) from by omega, e]
    show _ :: (t ++ [b]) = c :: (t ++ [b])
    congr 1
    apply UInt8.toNat_inj.1
    rw [toNat_ofNat_lt (by omega)]; omega
theorem uv_last (n : Nat) (p : List UInt8) (b : UInt8) (h : uv n = p ++ [b]) (hp : p ≠ []) : b.toNat ≠ 0 := by
  induction n using uv_ind generalizing p with
  | h1 n hn =>
    rw [uv_lt hn] at h
    cases p with
    | nil => exact absurd rfl hp
    | cons x t => simp at h
  | h2 n hn ih =>
    rw [uv_ge hn] at h
    cases p with
    | nil => exact absurd rfl hp
    | cons x t =>
      simp only [List.cons_append, List.cons.injEq] at h
      by_cases ht : t = []
      · subst ht
        have := h.2
        simp at this
        have hv := val_uv (n / 128)
        rw [this] at hv
        simp only [val] at hv
        intro h0
        rw [h0] at hv
        omega
      · exact ih t h.2 ht

/-! how many groups -/
theorem or_one (n : Nat) : (n ||| 1) = n + 1 - n % 2 := by
  by_cases h : n % 2 = 0
  · rw [nat_join 1 n 1 (by omega) (by omega)]; omega
  · obtain ⟨m, rfl⟩ : ∃ m, n = m + 1 := ⟨n - 1, by omega⟩
    rw [← nat_join 1 m 1 (by omega) (by omega), Nat.or_assoc, Nat.or_self, nat_join 1 m 1 (by omega) (by omega)]; omega
theorem bitLen_or_one (n : Nat) (h0 : 1 ≤ n) (h : n < 18446744073709551616) : Lib.bitLen (n ||| 1) = Lib.bitLen n := by
  have e := or_one n
  rw [Lib.bitLen_half n (by omega) (by omega), Lib.bitLen_half (n ||| 1) (by omega) (by omega), show (n ||| 1) / 2 = n / 2 by omega]
theorem bitLen_pos (n : Nat) (h0 : 1 ≤ n) (h : n < 18446744073709551616) : 1 ≤ Lib.bitLen n := by
  rw [Lib.bitLen_half n (by omega) (by omega)]; omega
theorem groups_eq (n : Nat) (h : n < 18446744073709551616) : (Lib.bitLen (n ||| 1) + 6) / 7 = (uv n).length := by
  induction n using uv_ind with
  | h1 n hn =>
    have e := or_one n
    rw [uv_lt hn]
    have h1 := Lib.bitLen_le (n ||| 1) 7 (by omega) (by omega)
    have h2 := bitLen_pos (n ||| 1) (by omega) (by omega)
    simp only [List.length_cons, List.length_nil]; omega
  | h2 n hn ih =>
    have e := ih (by omega)
    rw [bitLen_or_one _ (by omega) (by omega)] at e
    rw [bitLen_or_one n (by omega) h, Lib.bitLen_shift 7 n (by omega) (by omega), uv_ge hn, List.length_cons, ← e]
    show _ = (Lib.bitLen (n / 128) + 6) / 7 + 1
    rw [show (2 : Nat) ^ 7 = 128 from rfl]
    omega
/-- The group at place i. -/
theorem uv_get (n i : Nat) (h : i + 1 < (uv n).length) : (uv n)[i]? = some (UInt8.ofNat (n / 128 ^ i % 128 + 128)) := by
  induction n using uv_ind generalizing i with
  | h1 n hn => rw [uv_lt hn] at h; simp at h
  | h2 n hn ih =>
    rw [uv_ge hn] at h ⊢
    cases i with
    | zero => simp
    | succ i =>
      rw [List.getElem?_cons_succ, ih i (by simpa using h), Nat.pow_succ, Nat.mul_comm, Nat.div_div_eq_div_mul]
theorem uv_top (n i : Nat) (h : i + 1 = (uv n).length) : (uv n)[i]? = some (UInt8.ofNat (n / 128 ^ i % 128)) ∧ n / 128 ^ i < 128 := by
  induction n using uv_ind generalizing i with
  | h1 n hn =>
    rw [uv_lt hn] at h ⊢
    have : i = 0 := by simpa using h
    subst this
    simp; constructor
    · rw [Nat.mod_eq_of_lt hn]
    · exact hn
  | h2 n hn ih =>
    rw [uv_ge hn] at h ⊢
    cases i with
    | zero => have := uv_pos (n / 128); simp at h; simp [h] at this
    | succ i =>
      have := ih i (by simpa using h)
      rw [List.getElem?_cons_succ, Nat.pow_succ, Nat.mul_comm, ← Nat.div_div_eq_div_mul]
      exact this

/-! the program's own bits -/
theorem u64_not (x : Nat) (h : x < 18446744073709551616) : bits .xor .u64 IntKind.u64.max (x : Int) = ((18446744073709551615 - x : Nat) : Int) := by
  have e : IntKind.u64.max = ((18446744073709551615 : Nat) : Int) := by decide
  rw [e, u64_xor_nat _ _ (by omega) h]
  congr 1
  have hx : (BitVec.ofNat 64 x).toNat = x := by rw [BitVec.toNat_ofNat]; exact Nat.mod_eq_of_lt h
  have h1 := congrArg BitVec.toNat (BitVec.allOnes_xor (x := BitVec.ofNat 64 x))
  rw [BitVec.toNat_xor, BitVec.toNat_not, BitVec.toNat_allOnes, hx] at h1
  exact h1
theorem fold_neg (n : Int) (h1 : -9223372036854775808 ≤ n) (h : n < 0) : bits .xor .u64 IntKind.u64.max (IntKind.u64.wrap (IntKind.u64.wrap n * 2)) = -2 * n - 1 := by
  have e : IntKind.u64.wrap (IntKind.u64.wrap n * 2) = (((18446744073709551616 + 2 * n).toNat : Nat) : Int) := by
    rw [IntKind.wrap_u64, IntKind.wrap_u64]; omega
  rw [e, u64_not _ (by omega)]; omega
theorem unfold_odd (n : Nat) (h : n < 18446744073709551616) : wrap64 (bits .xor .u64 IntKind.u64.max ((n : Int) / 2)) = -((n : Int) / 2) - 1 := by
  have e : (n : Int) / 2 = ((n / 2 : Nat) : Int) := by omega
  rw [e, u64_not _ (by omega)]; unfold wrap64; omega
theorem and_one (n : Nat) (h : n < 18446744073709551616) : bits .and .u64 (n : Int) 1 = ((n % 2 : Nat) : Int) := by
  rw [show (1 : Int) = ((1 : Nat) : Int) from rfl, u64_and_nat _ _ h (by omega), nat_mask1]
theorem pow7 (i : Nat) : (2 : Nat) ^ (7 * i) = 128 ^ i := by rw [Nat.pow_mul]
/-- A group that more follow, as the program makes it. -/
theorem group_more (n i : Nat) : bits .or .u8 ((n : Int) / 2 ^ (7 * i) % 256) 128 = ((n / 128 ^ i % 128 + 128 : Nat) : Int) := by
  have e : ((n : Int) / 2 ^ (7 * i) % 256) = ((n / 128 ^ i % 256 : Nat) : Int) := by rw [← pow7]; simp
  rw [e]
  refine (u8_or_nat _ 128 (by omega) (by omega)).trans ?_
  rw [u8_or128 _ (by omega)]
  have : n / 128 ^ i % 256 % 128 = n / 128 ^ i % 128 := by omega
  rw [this]
theorem group_last (g : Nat) (h : g < 128) : bits .andNot .u8 ((g : Int) + 128) 128 = (g : Int) := by
  have := u8_andNot_nat (g + 128) 128 (by omega) (by omega)
  have e : ((g + 128 : Nat) : Int) = (g : Int) + 128 := by omega
  rw [e] at this
  refine this.trans ?_
  show (((g + 128) &&& 127 : Nat) : Int) = _
  rw [u8_and127]; omega

/-- One group more, as the program lays it. -/
theorem step_or (i x r : Nat) (hi : i ≤ 9) (hx : x < 128 ^ i) (hr : r < 128) :
    ∃ z : Nat, bits .or .u64 (x : Int) (IntKind.u64.wrap ((r : Int) * 2 ^ (7 * i))) = (z : Int) ∧ z < 18446744073709551616 ∧ (i ≤ 8 ∨ r < 2 → z = x + 128 ^ i * r) := by
  obtain ⟨P, hP⟩ : ∃ P : Nat, P = 128 ^ i := ⟨_, rfl⟩
  have hPi : ((2 : Int) ^ (7 * i)) = (P : Int) := by rw [hP, ← pow7]; simp
  rw [hPi]
  have hPd : P ∣ 18446744073709551616 := by rw [hP, ← pow7]; exact Nat.pow_dvd_pow 2 (m := 7 * i) (n := 64) (by omega)
  have hPl : P ≤ 9223372036854775808 := by rw [hP]; exact Nat.pow_le_pow_right (by omega) hi
  have hP8 : i ≤ 8 → P ≤ 72057594037927936 := fun h => by rw [hP]; exact Nat.pow_le_pow_right (by omega) h
  have hw : IntKind.u64.wrap ((r : Int) * (P : Int)) = ((r * P % 18446744073709551616 : Nat) : Int) := by rw [IntKind.wrap_u64]; simp
  obtain ⟨y, hy⟩ : ∃ y, y = r * P % 18446744073709551616 := ⟨_, rfl⟩
  have hyl : y < 18446744073709551616 := by omega
  rw [hw, ← hy]
  have hxl : x < 18446744073709551616 := by rw [← hP] at hx; omega
  refine ⟨x ||| y, u64_or_nat x y hxl hyl, Nat.or_lt_two_pow (n := 64) hxl hyl, fun h => ?_⟩
  have hym : y % P = 0 := by
    rw [hy, Nat.mod_mod_of_dvd _ hPd]; simp
  have hj : x ||| y = x + y := by
    rw [Nat.or_comm, nat_join (7 * i) y x (by rw [pow7, ← hP]; exact hym) (by rw [pow7]; exact hx), Nat.add_comm]
  rw [hj, hy, ← hP]
  have hlt : r * P < 18446744073709551616 := by
    rcases h with h | h
    · have := hP8 h
      calc r * P ≤ 127 * P := Nat.mul_le_mul_right _ (by omega)
        _ < 18446744073709551616 := by omega
    · calc r * P ≤ 1 * P := Nat.mul_le_mul_right _ (by omega)
        _ < 18446744073709551616 := by omega
  rw [Nat.mod_eq_of_lt hlt, Nat.mul_comm]
theorem val_take_lt (l : List UInt8) (i : Nat) (h : i ≤ l.length) : val (l.take i) < 128 ^ i := by
  have := val_lt (l.take i)
  rwa [List.length_take, Nat.min_eq_left h] at this

def mayEndB (i g : Nat) : Bool := decide ((i = 9 → g < 2) ∧ (i = 0 ∨ g ≠ 0))

/-- What GetUint answers: the integer, the place behind, the error's number. -/
def getU (l : List UInt8) (at_ : Int) : Int × Int × Int :=
  if at_ < 0 ∨ (l.length : Int) < at_ then (0, 0, 1)
  else if 10 ≤ lead (l.drop at_.toNat) then (0, 0, 11)
  else if lead (l.drop at_.toNat) = (l.drop at_.toNat).length then (0, 0, 10)
  else if val ((l.drop at_.toNat).take (lead (l.drop at_.toNat) + 1)) < 18446744073709551616 ∧
      uv (val ((l.drop at_.toNat).take (lead (l.drop at_.toNat) + 1))) = (l.drop at_.toNat).take (lead (l.drop at_.toNat) + 1)
    then ((val ((l.drop at_.toNat).take (lead (l.drop at_.toNat) + 1)) : Int), at_ + lead (l.drop at_.toNat) + 1, 0)
  else (0, 0, 11)
theorem getU_range {l : List UInt8} {at_ v nx er : Int} (h : getU l at_ = (v, nx, er)) :
    0 ≤ v ∧ v ≤ 18446744073709551615 ∧ 0 ≤ nx ∧ nx ≤ l.length ∧ 0 ≤ er ∧ er ≤ 11 ∧ (er ≠ 0 → v = 0 ∧ nx = 0) ∧ (er = 0 → 0 ≤ at_ ∧ at_ < nx) := by
  unfold getU at h
  have hl := lead_le (l.drop at_.toNat)
  have hd := List.length_drop (i := at_.toNat) (l := l)
  split at h
  · simp only [Prod.mk.injEq] at h; omega
  · split at h
    · simp only [Prod.mk.injEq] at h; omega
    · split at h
      · simp only [Prod.mk.injEq] at h; omega
      · split at h
        · simp only [Prod.mk.injEq] at h; omega
        · simp only [Prod.mk.injEq] at h; omega
/-! what the two programs come to, end by end -/
theorem getU_out {l : List UInt8} {a : Int} (h : a < 0 ∨ (l.length : Int) < a) : getU l a = (0, 0, 1) := by unfold getU; rw [if_pos h]
theorem getU_ten {l : List UInt8} {a : Nat} (h1 : a ≤ l.length) (h : 10 ≤ lead (l.drop a)) : getU l a = (0, 0, 11) := by
  unfold getU; rw [if_neg (by omega), Int.toNat_natCast, if_pos h]
theorem getU_short {l : List UInt8} {a i : Nat} (h1 : a + i = l.length) (hi : i < 10) (h : i ≤ lead (l.drop a)) : getU l a = (0, 0, 10) := by
  have hl := lead_le (l.drop a)
  have hd := List.length_drop (i := a) (l := l)
  unfold getU; rw [if_neg (by omega), Int.toNat_natCast, if_neg (by omega), if_pos (by omega)]
theorem lead_here {l : List UInt8} {a i : Nat} (h1 : a + i < l.length) (h : i ≤ lead (l.drop a)) (hb : (l[a + i]).toNat < 128) : lead (l.drop a) = i :=
  lead_eq (fun j hj => lead_lt (by omega)) (by rw [List.getElem?_drop, List.getElem?_eq_getElem h1]) hb
theorem lead_more {l : List UInt8} {a i : Nat} (h1 : a + i < l.length) (h : i ≤ lead (l.drop a)) (hb : ¬ (l[a + i]).toNat < 128) : i + 1 ≤ lead (l.drop a) :=
  lead_ge (fun j hj => by
    by_cases e : j = i
    · subst e; exact ⟨_, by rw [List.getElem?_drop, List.getElem?_eq_getElem h1], by omega⟩
    · exact lead_lt (by omega))
/-- With the place of the last group known: the integer, if the last group may end it. -/
theorem getU_end {l : List UInt8} {a i x : Nat} (h1 : a + i < l.length) (hi : i < 10) (h : lead (l.drop a) = i) (hx : x = val ((l.drop a).take i)) :
    getU l a = if mayEndB i (l[a + i]).toNat = true then (((x + 128 ^ i * (l[a + i]).toNat : Nat) : Int), (a : Int) + i + 1, 0) else (0, 0, 11) := by
  have hd := List.length_drop (i := a) (l := l)
  have hget : (l.drop a)[i]? = some (l[a + i]) := by rw [List.getElem?_drop, List.getElem?_eq_getElem h1]
  have hb : (l[a + i]).toNat < 128 := by
    have hlt : lead (l.drop a) < (l.drop a).length := by omega
    obtain ⟨b, h2, h3⟩ := lead_at hlt
    rw [h, hget] at h2; cases h2; exact h3
  have htk : (l.drop a).take (i + 1) = (l.drop a).take i ++ [l[a + i]] := by
    rw [List.take_succ_eq_append_getElem (by omega)]
    congr 1
    rw [List.getElem_drop]
  have hform : formed ((l.drop a).take i) (l[a + i]) := ⟨fun c hc => by
    obtain ⟨j, hj, rfl⟩ := List.getElem_of_mem hc
    rw [List.length_take] at hj
    obtain ⟨c, h2, h3⟩ := lead_lt (l := l.drop a) (i := j) (by omega)
    rw [List.getElem_take]
    rw [List.getElem?_eq_getElem (by omega)] at h2
    injection h2 with h2
    rw [h2]; exact h3, hb⟩
  have hv : val ((l.drop a).take (i + 1)) = x + 128 ^ i * (l[a + i]).toNat := by
    rw [val_take_succ hget, ← hx, Nat.mod_eq_of_lt hb]
  have hxl : x < 128 ^ i := by rw [hx]; exact val_take_lt _ _ (by omega)
  unfold getU
  rw [if_neg (by omega), Int.toNat_natCast, h, if_neg (by omega), if_neg (by omega), hv]
  have key : (x + 128 ^ i * (l[a + i]).toNat < 18446744073709551616 ∧ uv (x + 128 ^ i * (l[a + i]).toNat) = (l.drop a).take (i + 1)) ↔ mayEndB i (l[a + i]).toNat = true := by
    unfold mayEndB
    rw [decide_eq_true_iff]
    constructor
    · rintro ⟨k1, k2⟩
      constructor
      · rintro rfl
        rcases Nat.lt_or_ge (l[a + 9]).toNat 2 with h2 | h2
        · exact h2
        · have : 128 ^ 9 * 2 ≤ 128 ^ 9 * (l[a + 9]).toNat := Nat.mul_le_mul_left _ h2
          omega
      · by_cases h0 : i = 0
        · exact .inl h0
        · refine .inr (uv_last _ _ _ (k2.trans htk) (fun e => ?_))
          have := congrArg List.length e
          rw [List.length_take] at this
          simp at this; omega
    · rintro ⟨k1, k2⟩
      constructor
      · by_cases h9 : i = 9
        · have h2 := k1 h9
          have e9 : 128 ^ i = 9223372036854775808 := by rw [h9]
          have : 128 ^ i * (l[a + i]).toNat ≤ 128 ^ i * 1 := Nat.mul_le_mul_left _ (by omega)
          rw [e9] at this hxl ⊢
          omega
        · have : val ((l.drop a).take (i + 1)) < 128 ^ (i + 1) := val_take_lt _ _ (by omega)
          rw [hv] at this
          have h3 : 128 ^ (i + 1) ≤ 128 ^ 9 := Nat.pow_le_pow_right (by omega) (by omega)
          have e9 : (128 : Nat) ^ 9 = 9223372036854775808 := by decide
          omega
      · rw [← hv, htk]
        refine uv_val hform ?_
        rcases k2 with k2 | k2
        · left; rw [k2]; rfl
        · exact .inr k2
  by_cases hm : mayEndB i (l[a + i]).toNat = true
  · rw [if_pos hm, if_pos (key.2 hm)]
  · rw [if_neg hm, if_neg (fun e => hm (key.1 e))]
theorem getU_big {l : List UInt8} {a i : Nat} (h1 : a + i < l.length) (hi : i < 10) (h : lead (l.drop a) = i) (hx : ¬ (val ((l.drop a).take (i + 1)) < 18446744073709551616 ∧ uv (val ((l.drop a).take (i + 1))) = (l.drop a).take (i + 1))) : getU l a = (0, 0, 11) := by
  have hd := List.length_drop (i := a) (l := l)
  unfold getU
  rw [if_neg (by omega), Int.toNat_natCast, h, if_neg (by omega), if_neg (by omega), if_neg hx]
theorem getU_good {l : List UInt8} {a i : Nat} (h1 : a + i < l.length) (hi : i < 10) (h : lead (l.drop a) = i) (hx : val ((l.drop a).take (i + 1)) < 18446744073709551616 ∧ uv (val ((l.drop a).take (i + 1))) = (l.drop a).take (i + 1)) : getU l a = ((val ((l.drop a).take (i + 1)) : Int), (a : Int) + i + 1, 0) := by
  have hd := List.length_drop (i := a) (l := l)
  unfold getU
  rw [if_neg (by omega), Int.toNat_natCast, h, if_neg (by omega), if_neg (by omega), if_pos hx]
theorem val_drop (t : List UInt8) (k : Nat) (h : k < t.length) : val (t.drop k) = t[k].toNat % 128 + 128 * val (t.drop (k + 1)) := by
  rw [List.drop_eq_getElem_cons h]; rfl
theorem val_drop_le (t : List UInt8) (k : Nat) : val (t.drop k) ≤ val t := by
  have h := val_append (t.take k) (t.drop k)
  rw [List.take_append_drop] at h
  have : 0 < 128 ^ (t.take k).length := Nat.pow_pos (by omega)
  have := Nat.mul_le_mul_right (val (t.drop k)) this
  omega
/-- An integer's bytes are read back, wherever they stand. -/
theorem getU_uv (a r : List UInt8) (n : Nat) (hn : n < 18446744073709551616) : getU (a ++ (uv n ++ r)) a.length = ((n : Int), (a.length + (uv n).length : Int), 0) := by
  unfold getU
  have h10 := uv_len10 hn
  have hp := uv_pos n
  rw [if_neg (by simp; omega)]
  simp only [Int.toNat_natCast, List.drop_left, lead_uv]
  have ht : (uv n ++ r).take ((uv n).length - 1 + 1) = uv n := by rw [Nat.sub_add_cancel hp]; exact List.take_left
  rw [if_neg (by omega), if_neg (by simp; omega), ht, val_uv, if_pos ⟨hn, rfl⟩]
  simp only [Prod.mk.injEq, and_true, true_and]; omega
/-- Some bytes too few of an integer: ErrShort. -/
theorem getU_cut (a : List UInt8) (n k : Nat) (hn : n < 18446744073709551616) (hk : k < (uv n).length) : getU (a ++ (uv n).take k) a.length = (0, 0, 10) := by
  have h10 := uv_len10 hn
  have hlead : lead ((uv n).take k) = ((uv n).take k).length := by
    have hu := lead_uv n []
    rw [List.append_nil] at hu
    have h1 := lead_le ((uv n).take k)
    rw [List.length_take, Nat.min_eq_left (by omega)] at h1 ⊢
    have h2 : k ≤ lead ((uv n).take k) := lead_ge (fun i hi => by
      obtain ⟨c, hc, hc'⟩ := lead_lt (l := uv n) (i := i) (by omega)
      exact ⟨c, by rw [List.getElem?_take, if_pos hi]; exact hc, hc'⟩)
    omega
  unfold getU
  rw [if_neg (by simp; omega)]
  simp only [Int.toNat_natCast, List.drop_left]
  rw [if_neg (by rw [hlead, List.length_take]; omega), if_pos hlead]
theorem getU_zero {l : List UInt8} {v nx : Nat} (h : getU l 0 = ((v : Int), (nx : Int), 0)) : uv v = l.take nx := by
  unfold getU at h
  split at h
  · simp at h
  · split at h
    · simp at h
    · split at h
      · simp at h
      · split at h
        · rename_i hc
          simp only [Prod.mk.injEq, and_true] at h
          have e : nx = lead (l.drop (0 : Int).toNat) + 1 := by omega
          have e2 : v = val ((l.drop (0 : Int).toNat).take (lead (l.drop (0 : Int).toNat) + 1)) := by omega
          rw [e, e2, hc.2]; rfl
        · simp at h
def getI (l : List UInt8) (at_ : Int) : Int × Int × Int :=
  if (getU l at_).2.2 = 0 then (unfold (getU l at_).1, (getU l at_).2.1, 0) else (0, 0, (getU l at_).2.2)
def getT (l : List UInt8) (at_ : Int) : List UInt8 × Int × Int :=
  if (getU l at_).2.2 = 0 then
    (if (l.length : Int) - (getU l at_).2.1 < (getU l at_).1 then ([], 0, 10)
     else ((l.drop (getU l at_).2.1.toNat).take (getU l at_).1.toNat, (getU l at_).2.1 + (getU l at_).1, 0))
  else ([], 0, (getU l at_).2.2)
def iv (n : Int) : List UInt8 := uv (fold n).toNat
def tx (s : List UInt8) : List UInt8 := uv s.length ++ s
theorem iv_len (n : Int) (h1 : -9223372036854775808 ≤ n) (h2 : n ≤ 9223372036854775807) : (iv n).length ≤ 10 := uv_len10 (by have := fold_range n h1 h2; omega)
theorem tx_len (s : List UInt8) (h : s.length < 18446744073709551616) : (tx s).length ≤ 10 + s.length := by
  have := uv_len10 h
  unfold tx; rw [List.length_append]; omega
theorem iv_inj {a b : Int} (h : iv a = iv b) : a = b := by
  have h1 := uv_inj h
  have : 0 ≤ fold a ∧ 0 ≤ fold b := by unfold fold; split <;> split <;> omega
  exact fold_inj (by omega)
theorem getI_iv (a r : List UInt8) (n : Int) (h1 : -9223372036854775808 ≤ n) (h2 : n ≤ 9223372036854775807) : getI (a ++ (iv n ++ r)) a.length = (n, (a.length + (iv n).length : Int), 0) := by
  have hr := fold_range n h1 h2
  unfold getI iv
  rw [getU_uv a r (fold n).toNat (by omega)]
  simp only [if_true, Prod.mk.injEq, and_true]
  rw [Int.toNat_of_nonneg hr.1, unfold_fold]
theorem getT_tx (a r s : List UInt8) (h : s.length < 18446744073709551616) : getT (a ++ (tx s ++ r)) a.length = (s, (a.length + (tx s).length : Int), 0) := by
  unfold getT tx
  rw [List.append_assoc, getU_uv a (s ++ r) s.length h]
  simp only [if_true]
  rw [if_neg (by simp; omega)]
  have e1 : ((a.length : Int) + ((uv s.length).length : Int)).toNat = (a ++ uv s.length).length := by simp; omega
  have e2 : a ++ (uv s.length ++ (s ++ r)) = (a ++ uv s.length) ++ (s ++ r) := by simp
  rw [e1, e2, List.drop_left, Int.toNat_natCast, List.take_left]
  simp; omega
end Go.Proofs.YtfhcjlmolneooaaDoor
