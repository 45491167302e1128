/-
  Texts of the same seat, one behind the other (merged; each says at its head what it is).
-/
import Derived.WalkKit
import Derived.WalkSpells
import Derived.WalkLawsBesides
import Derived.Lib.Strings
import Derived.Laws.IdiomStrings
import Derived.Laws.BytesArg
import Derived.Deep.OwnRows
import Derived.Lib.BitFns
import Derived.Lib.TrimUEq
import Derived.Lib.Join
import Derived.Maps.AppendAt
import Derived.Deep.AppendLies
import Derived.OwnWalk
import Derived.RegionTactic
import Derived.Shelf.Strings.Builder1
import Derived.Shelf.Strings.Builder2
import Derived.Shelf.Strings.OnBuilder
import Derived.Shelf.Small.Utf8
import Derived.Shelf.Small.Strs
import Derived.Shelf.Small.Wraps
import Derived.Shelf.Strings.BuilderF
import Derived.Shelf.Strings.BuilderK
import Derived.Shelf.Strings.Builder2Cap
import Derived.Shelf.Strconv.Itoa0
import Derived.Shelf.LaysM
import Derived.Shelf.Strconv.Clone
import Derived.Shelf.Strings.Search1
import Derived.Shelf.Strings.Search2
import Derived.Shelf.Strings.Cut
import Derived.Shelf.Strings.Shaped
import Derived.Shelf.Strings.Prefix
import Derived.Shelf.Unicode.Decode
import Derived.Shelf.Unicode.DecodeSlow
import Derived.Shelf.Unicode.DecodeAny
import Derived.Shelf.Strings.BuilderCap
import Derived.Shelf.Slices.Turned
import Derived.Ground.Names2Prog
import Derived.Shelf.Slices.SearchI
import Derived.Test.YtdbifbgjbfnfmaaDoorProg
import Derived.Test.YtdbifbgjbfnfmaaDoorRows
import Derived.Outline
import Derived.BigQuiet
import Derived.BigRegion
import Derived.Deep.QuietTactic
import Derived.Deep.RegionWith
import Derived.IntWalk
import Derived.Deep.Fields
import Derived.Deep.Slices
import Derived.Deep.RegionHeld3
import Derived.OpenShut
import Derived.Laws.RangeAny
/-
  Plain lemmas that name no program: strings as lists of bytes, small facts on numbers.
-/
namespace Go.Proofs.YtdbifbgjbfnfmaaDoor
open Go.RowKit Go.Deep

/-- A Go string, by its list of bytes. -/
def str (l : List UInt8) : ByteArray := ⟨l.toArray⟩
theorem str_size (l : List UInt8) : (str l).size = l.length := by simp [str, ByteArray.size]
theorem str_append (a b : List UInt8) : str a ++ str b = str (a ++ b) := by
  unfold str; exact ByteArray.mk_append_mk a b
theorem str_toList (l : List UInt8) : (str l).toList = l := ByteArray.toList_mk l
theorem str_data (l : List UInt8) : (str l).data.toList = l := by simp [str]
theorem str_of (s : ByteArray) : ∃ l, s = str l := ⟨s.data.toList, by simp [str]⟩
theorem str_extract (l : List UInt8) (a b : Nat) : (str l).extract a b = str ((l.drop a).take (b - a)) := by
  unfold str; exact ByteArray.extract_mk l a b
theorem str_nil : (⟨#[]⟩ : ByteArray) = str [] := rfl
theorem str_inj {a b : List UInt8} (h : str a = str b) : a = b := by
  rw [← str_data a, h, str_data]
theorem str_getElem (l : List UInt8) (i : Nat) (h : i < l.length) : (str l)[i]? = some (l[i]) := by
  unfold str
  rw [ByteArray.getElem?_lt' _ _ (by simpa [ByteArray.size] using h)]
  rfl
theorem str_get (l : List UInt8) (i : Nat) (h : i < (str l).size) : (str l)[i]'h = l[i]'(by simpa [str_size] using h) := rfl
theorem ret_int {k : IntKind} {a b : Int} (h : a = b) : Ending.returned (.int k a) = .returned (.int k b) := by rw [h]
theorem ret_str {a b : List UInt8} (h : a = b) : Ending.returned (.string (str a)) = .returned (.string (str b)) := by rw [h]
theorem ret_bool {a b : Bool} (h : a = b) : Ending.returned (.bool a) = .returned (.bool b) := by rw [h]
theorem below_drewN {B : Nat} {a w : World} (h : Below B a w) (n : Nat) : Below B a (w.drewN n) := ⟨h.os, h.tape, h.output, h.size, h.block⟩
theorem below_of_drew {B : Nat} {a w : World} (h : Below B a.drew w) : Below B a w := ⟨h.os, h.tape, h.output, h.size, h.block⟩
/-- Two steps, each below its own start. -/
theorem below2 {B : Nat} {a b c : World} (h : Below B a b) (k : Below b.heap.size b c) (hB : B ≤ b.heap.size) : Below B a c := h.trans (k.mono hB)

/-- 'string(b)' where b's cells are known. -/
theorem conv_cells {P : Program} (W : World) (src dst e : TypeId) (a : Addr) (cap : Nat) (ns : List Int) (hs : P.underlying src = some (.slice e)) (he : P.underlying e = some (.int .u8)) (hd : P.underlying dst = some .string)
    (hc : ∀ j v, (ns.map (Value.int .u8))[j]? = some v → W.cell? (a.add j) = some v) :
    (convert src dst (.slice (some a) ns.length cap)).run P W = .ok (.string (str (ns.map fun n => UInt8.ofNat n.toNat))) W := by
  have hl := run_loadCells_list (P := P) W a (ns.map (Value.int .u8)) hc
  rw [List.length_map] at hl
  rw [run_convert_bytes_string W src dst e (some a) ns.length cap hs he hd, run_bytesToString W a ns.length cap ns hl, foldl_push_bytes]
  simp [str, ByteArray.empty, ByteArray.emptyWithCapacity]
  rfl
/-- 'string([]byte{b})'. -/
theorem conv_one {P : Program} (src dst e : TypeId) (hs : P.underlying src = some (.slice e)) (he : P.underlying e = some (.int .u8)) (hd : P.underlying dst = some .string) (W : World) (b : Int) :
    (convert src dst (.slice (some ⟨W.heap.size, 0, none⟩) 1 1)).run P (W.alloc (.cells #[.int .u8 b] e)) = .ok (.string (str [UInt8.ofNat b.toNat])) (W.alloc (.cells #[.int .u8 b] e)) := by
  refine conv_cells (W.alloc (.cells #[.int .u8 b] e)) src dst e ⟨W.heap.size, 0, none⟩ 1 [b] hs he hd ?_
  intro j v hv
  cases j with
  | zero => simp at hv; subst hv; simp [Addr.add, World.cell?_alloc_mark]
  | succ j => simp at hv

/-- 'string([]byte{a, b})'. -/
theorem conv_two {P : Program} (src dst e : TypeId) (hs : P.underlying src = some (.slice e)) (he : P.underlying e = some (.int .u8)) (hd : P.underlying dst = some .string) (W : World) (a b : Int) :
    (convert src dst (.slice (some ⟨W.heap.size, 0, none⟩) 2 2)).run P (W.alloc (.cells #[.int .u8 a, .int .u8 b] e)) = .ok (.string (str [UInt8.ofNat a.toNat, UInt8.ofNat b.toNat])) (W.alloc (.cells #[.int .u8 a, .int .u8 b] e)) := by
  refine conv_cells (W.alloc (.cells #[.int .u8 a, .int .u8 b] e)) src dst e ⟨W.heap.size, 0, none⟩ 2 [a, b] hs he hd ?_
  intro j v hv
  match j, hv with
  | 0, hv => simp at hv; subst hv; simp [Addr.add, World.cell?_alloc_mark]
  | 1, hv => simp at hv; subst hv; simp [Addr.add, World.cell?_alloc_mark]
  | j + 2, hv => simp at hv

/-- 'string(b)' of a whole row of the call's own that holds the bytes l. -/
theorem conv_row {P : Program} (W : World) (src dst e : TypeId) (hs : P.underlying src = some (.slice e)) (he : P.underlying e = some (.int .u8)) (hd : P.underlying dst = some .string)
    (b : Nat) (l : List UInt8) (n cap : Nat) (f : Nat → Value) (hr : W.rowIs b e n f) (hn : l.length ≤ n) (hf : ∀ j (h : j < l.length), f j = .int .u8 (l[j].toNat : Int)) :
    (convert src dst (.slice (some ⟨b, 0, none⟩) l.length cap)).run P W = .ok (.string (str l)) W :=
  run_convert_bytes_back W src dst e ⟨b, 0, none⟩ cap l hs he hd (fun j hj => by
    have h := hr.cell (i := j) (by omega)
    rw [hf j hj] at h
    have e : (⟨b, 0, none⟩ : Addr).add j = ⟨b, j, none⟩ := by unfold Addr.add; split <;> simp_all
    rw [e]; exact h)

/-! bits of 64-bit words and of bytes, as sums -/
theorem u8_or128 (x : Nat) (h : x < 256) : (x ||| 128) = x % 128 + 128 :=
  (by decide +kernel : ∀ x : Fin 256, (x.val ||| 128) = x.val % 128 + 128) ⟨x, h⟩
theorem u8_and128 (x : Nat) (h : x < 256) : (x &&& 128) = if x < 128 then 0 else 128 :=
  (by decide +kernel : ∀ x : Fin 256, (x.val &&& 128) = if x.val < 128 then 0 else 128) ⟨x, h⟩
theorem u8_and127 (x : Nat) : (x &&& 127) = x % 128 := nat_mask7 x
end Go.Proofs.YtdbifbgjbfnfmaaDoor
/-
  Plain mathematics of layer 1: integers in groups of seven bits; the zigzag fold. No program in sight.
-/
namespace Go.Proofs.YtdbifbgjbfnfmaaDoor
open Go.RowKit

def fold (n : Int) : Int := if n < 0 then -2 * n - 1 else 2 * n
def unfold (k : Int) : Int := if k % 2 = 0 then k / 2 else -(k / 2) - 1
theorem unfold_fold (n : Int) : unfold (fold n) = n := by unfold unfold fold; split <;> split <;> omega
theorem fold_unfold (k : Int) (h : 0 ≤ k) : fold (unfold k) = k := by unfold unfold fold; split <;> split <;> omega
theorem fold_range (n : Int) (h1 : -9223372036854775808 ≤ n) (h2 : n ≤ 9223372036854775807) : 0 ≤ fold n ∧ fold n ≤ 18446744073709551615 := by
  unfold fold; split <;> omega
theorem unfold_range (k : Int) (h1 : 0 ≤ k) (h2 : k ≤ 18446744073709551615) : -9223372036854775808 ≤ unfold k ∧ unfold k ≤ 9223372036854775807 := by
  unfold unfold; split <;> omega
theorem fold_inj {a b : Int} (h : fold a = fold b) : a = b := by rw [← unfold_fold a, h, unfold_fold]

/-- The bytes of an integer: groups of seven bits, the lowest first. -/
def uv (n : Nat) : List UInt8 :=
  if n < 128 then [UInt8.ofNat n] else UInt8.ofNat (n % 128 + 128) :: uv (n / 128)
  termination_by n
  decreasing_by omega
theorem uv_lt {n : Nat} (h : n < 128) : uv n = [UInt8.ofNat n] := by rw [uv, if_pos h]
theorem uv_ge {n : Nat} (h : ¬ n < 128) : uv n = UInt8.ofNat (n % 128 + 128) :: uv (n / 128) := by rw [uv, if_neg h]

def val : List UInt8 → Nat
  | [] => 0
  | b :: t => b.toNat % 128 + 128 * val t
/-- How many bytes ahead have the highest bit set. -/
def lead : List UInt8 → Nat
  | [] => 0
  | b :: t => if b.toNat < 128 then 0 else lead t + 1

theorem toNat_ofNat_lt {n : Nat} (h : n < 256) : (UInt8.ofNat n).toNat = n := by simp [UInt8.toNat_ofNat']; omega

theorem uv_ind {P : Nat → Prop} (h1 : ∀ n, n < 128 → P n) (h2 : ∀ n, ¬ n < 128 → P (n / 128) → P n) (n : Nat) : P n := by
  induction n using Nat.strongRecOn with
  | _ n ih =>
    by_cases h : n < 128
    · exact h1 n h
    · exact h2 n h (ih _ (by omega))

theorem val_uv (n : Nat) : val (uv n) = n := by
  induction n using uv_ind with
  | h1 n h => rw [uv_lt h]; simp only [val]; rw [toNat_ofNat_lt (by omega)]; omega
  | h2 n h ih => rw [uv_ge h]; simp only [val]; rw [ih, toNat_ofNat_lt (by omega)]; omega
theorem uv_inj {a b : Nat} (h : uv a = uv b) : a = b := by rw [← val_uv a, h, val_uv]
theorem uv_pos (n : Nat) : 1 ≤ (uv n).length := by rw [uv]; split <;> simp
theorem uv_len_le (k n : Nat) (h : n < 128 ^ (k + 1)) : (uv n).length ≤ k + 1 := by
  induction k generalizing n with
  | zero => rw [uv_lt (by simpa using h)]; simp
  | succ k ih =>
    by_cases h1 : n < 128
    · rw [uv_lt h1]; simp
    · rw [uv_ge h1]
      have := ih (n / 128) (by
        have : n < 128 ^ (k + 1) * 128 := by rw [← Nat.pow_succ]; exact h
        exact Nat.div_lt_of_lt_mul (by rw [Nat.mul_comm]; exact this))
      simp; omega
theorem uv_len10 {n : Nat} (h : n < 18446744073709551616) : (uv n).length ≤ 10 := uv_len_le 9 n (by omega)
theorem uv_len_ge (k n : Nat) (h : k + 1 < (uv n).length) : 128 ^ (k + 1) ≤ n := by
  rcases Nat.lt_or_ge n (128 ^ (k + 1)) with h1 | h1
  · have := uv_len_le k n h1; omega
  · exact h1
theorem lead_uv (n : Nat) (r : List UInt8) : lead (uv n ++ r) = (uv n).length - 1 := by
  induction n using uv_ind with
  | h1 n h => rw [uv_lt h]; simp only [List.cons_append, List.nil_append, lead]; rw [toNat_ofNat_lt (by omega), if_pos h]; simp
  | h2 n h ih =>
    rw [uv_ge h]; simp only [List.cons_append, lead]; rw [toNat_ofNat_lt (by omega), if_neg (by omega), ih]
    have := uv_pos (n / 128); simp; omega
theorem lead_le (l : List UInt8) : lead l ≤ l.length := by
  induction l with
  | nil => simp [lead]
  | cons b t ih => simp only [lead]; split <;> simp; omega
theorem lead_lt {l : List UInt8} {i : Nat} (h : i < lead l) : ∃ b, l[i]? = some b ∧ 128 ≤ b.toNat := by
  induction l generalizing i with
  | nil => simp [lead] at h
  | cons b t ih =>
    simp only [lead] at h
    split at h
    · omega
    · cases i with
      | zero => exact ⟨b, rfl, by omega⟩
      | succ i => simpa using ih (i := i) (by omega)
theorem lead_at {l : List UInt8} (h : lead l < l.length) : ∃ b, l[lead l]? = some b ∧ b.toNat < 128 := by
  induction l with
  | nil => simp [lead] at h
  | cons b t ih =>
    simp only [lead] at h ⊢
    split at h
    · rename_i hb; rw [if_pos hb]; exact ⟨b, rfl, hb⟩
    · rename_i hb; rw [if_neg hb]; simpa using ih (by simpa using h)
/-- What a scan that has met only bytes with the bit, and then one without, has met. -/
theorem lead_eq {l : List UInt8} {k : Nat} {b : UInt8} (h : ∀ i, i < k → ∃ c, l[i]? = some c ∧ 128 ≤ c.toNat) (hk : l[k]? = some b) (hb : b.toNat < 128) : lead l = k := by
  rcases Nat.lt_trichotomy (lead l) k with h1 | h1 | h1
  · obtain ⟨c, hc, hc'⟩ := h _ h1
    have hlt : lead l < l.length := (List.getElem?_eq_some_iff.1 hc).1
    obtain ⟨d, hd, hd'⟩ := lead_at hlt
    rw [hc] at hd; cases hd; omega
  · exact h1
  · obtain ⟨c, hc, hc'⟩ := lead_lt h1
    rw [hk] at hc; cases hc; omega
theorem lead_ge {l : List UInt8} {k : Nat} (h : ∀ i, i < k → ∃ c, l[i]? = some c ∧ 128 ≤ c.toNat) : k ≤ lead l := by
  rcases Nat.lt_or_ge (lead l) k with h1 | h1
  · obtain ⟨c, hc, hc'⟩ := h _ h1
    obtain ⟨d, hd, hd'⟩ := lead_at (List.getElem?_eq_some_iff.1 hc).1
    rw [hc] at hd; cases hd; omega
  · exact h1
theorem val_append (a b : List UInt8) : val (a ++ b) = val a + 128 ^ a.length * val b := by
  induction a with
  | nil => simp [val]
  | cons x t ih => simp only [List.cons_append, val, ih, List.length_cons, Nat.pow_succ]; rw [Nat.mul_add, Nat.mul_comm (128 ^ t.length) 128, Nat.mul_assoc]; omega
theorem val_lt (l : List UInt8) : val l < 128 ^ l.length := by
  induction l with
  | nil => simp [val]
  | cons x t ih => simp only [val, List.length_cons, Nat.pow_succ]; omega
theorem val_take_succ {l : List UInt8} {k : Nat} {b : UInt8} (h : l[k]? = some b) : val (l.take (k + 1)) = val (l.take k) + 128 ^ k * (b.toNat % 128) := by
  obtain ⟨hk, rfl⟩ := List.getElem?_eq_some_iff.1 h
  rw [List.take_succ_eq_append_getElem hk, val_append, List.length_take, Nat.min_eq_left (by omega)]
  simp [val]
/-- The shape of what is read: bytes with the bit, then one without. -/
def formed (p : List UInt8) (b : UInt8) : Prop := (∀ c ∈ p, 128 ≤ c.toNat) ∧ b.toNat < 128
theorem uv_val {p : List UInt8} {b : UInt8} (h : formed p b) (hz : p = [] ∨ b.toNat ≠ 0) : uv (val (p ++ [b])) = p ++ [b] := by
  induction p with
  | nil =>
    have hb := h.2
    simp only [List.nil_append, val]
    rw [uv_lt (by omega)]
    congr 1
    apply UInt8.toNat_inj.1
    rw [toNat_ofNat_lt (by omega)]; omega
  | cons c t ih =>
    have hc := h.1 c (by simp)
    have hcl := c.toNat_lt
    have hb0 : b.toNat ≠ 0 := by rcases hz with hz | hz; · cases hz
                                 · exact hz
    have e := ih ⟨fun x hx => h.1 x (by simp [hx]), h.2⟩ (.inr hb0)
    have hpos : 0 < val (t ++ [b]) := by
      rw [val_append]
      have : 0 < 128 ^ t.length := Nat.pow_pos (by omega)
      have hb := h.2
      have : 0 < val [b] := by simp only [val]; omega
      have := Nat.mul_pos ‹0 < 128 ^ t.length› this
      omega
    have hv : val (c :: t ++ [b]) = c.toNat % 128 + 128 * val (t ++ [b]) := rfl
    rw [uv_ge (by rw [hv]; omega), hv]
    rw [show (c.toNat % 128 + 128 * val (t ++ [b])) / 128 = val (t ++ [b]) from by omega, e]
    show _ :: (t ++ [b]) = c :: (t ++ [b])
    congr 1
    apply UInt8.toNat_inj.1
    rw [toNat_ofNat_lt (by omega)]; omega
theorem uv_last (n : Nat) (p : List UInt8) (b : UInt8) (h : uv n = p ++ [b]) (hp : p ≠ []) : b.toNat ≠ 0 := by
  induction n using uv_ind generalizing p with
  | h1 n hn =>
    rw [uv_lt hn] at h
    cases p with
    | nil => exact absurd rfl hp
    | cons x t => simp at h
  | h2 n hn ih =>
    rw [uv_ge hn] at h
    cases p with
    | nil => exact absurd rfl hp
    | cons x t =>
      simp only [List.cons_append, List.cons.injEq] at h
      by_cases ht : t = []
      · subst ht
        have := h.2
        simp at this
        have hv := val_uv (n / 128)
        rw [this] at hv
        simp only [val] at hv
        intro h0
        rw [h0] at hv
        omega
      · exact ih t h.2 ht

/-! how many groups -/
theorem or_one (n : Nat) : (n ||| 1) = n + 1 - n % 2 := by
  by_cases h : n % 2 = 0
  · rw [nat_join 1 n 1 (by omega) (by omega)]; omega
  · obtain ⟨m, rfl⟩ : ∃ m, n = m + 1 := ⟨n - 1, by omega⟩
    rw [← nat_join 1 m 1 (by omega) (by omega), Nat.or_assoc, Nat.or_self, nat_join 1 m 1 (by omega) (by omega)]; omega
theorem bitLen_or_one (n : Nat) (h0 : 1 ≤ n) (h : n < 18446744073709551616) : Lib.bitLen (n ||| 1) = Lib.bitLen n := by
  have e := or_one n
  rw [Lib.bitLen_half n (by omega) (by omega), Lib.bitLen_half (n ||| 1) (by omega) (by omega), show (n ||| 1) / 2 = n / 2 by omega]
theorem bitLen_pos (n : Nat) (h0 : 1 ≤ n) (h : n < 18446744073709551616) : 1 ≤ Lib.bitLen n := by
  rw [Lib.bitLen_half n (by omega) (by omega)]; omega
theorem groups_eq (n : Nat) (h : n < 18446744073709551616) : (Lib.bitLen (n ||| 1) + 6) / 7 = (uv n).length := by
  induction n using uv_ind with
  | h1 n hn =>
    have e := or_one n
    rw [uv_lt hn]
    have h1 := Lib.bitLen_le (n ||| 1) 7 (by omega) (by omega)
    have h2 := bitLen_pos (n ||| 1) (by omega) (by omega)
    simp only [List.length_cons, List.length_nil]; omega
  | h2 n hn ih =>
    have e := ih (by omega)
    rw [bitLen_or_one _ (by omega) (by omega)] at e
    rw [bitLen_or_one n (by omega) h, Lib.bitLen_shift 7 n (by omega) (by omega), uv_ge hn, List.length_cons, ← e]
    show _ = (Lib.bitLen (n / 128) + 6) / 7 + 1
    rw [show (2 : Nat) ^ 7 = 128 from rfl]
    omega
/-- The group at place i. -/
theorem uv_get (n i : Nat) (h : i + 1 < (uv n).length) : (uv n)[i]? = some (UInt8.ofNat (n / 128 ^ i % 128 + 128)) := by
  induction n using uv_ind generalizing i with
  | h1 n hn => rw [uv_lt hn] at h; simp at h
  | h2 n hn ih =>
    rw [uv_ge hn] at h ⊢
    cases i with
    | zero => simp
    | succ i =>
      rw [List.getElem?_cons_succ, ih i (by simpa using h), Nat.pow_succ, Nat.mul_comm, Nat.div_div_eq_div_mul]
theorem uv_top (n i : Nat) (h : i + 1 = (uv n).length) : (uv n)[i]? = some (UInt8.ofNat (n / 128 ^ i % 128)) ∧ n / 128 ^ i < 128 := by
  induction n using uv_ind generalizing i with
  | h1 n hn =>
    rw [uv_lt hn] at h ⊢
    have : i = 0 := by simpa using h
    subst this
    simp; constructor
    · rw [Nat.mod_eq_of_lt hn]
    · exact hn
  | h2 n hn ih =>
    rw [uv_ge hn] at h ⊢
    cases i with
    | zero => have := uv_pos (n / 128); simp at h; simp [h] at this
    | succ i =>
      have := ih i (by simpa using h)
      rw [List.getElem?_cons_succ, Nat.pow_succ, Nat.mul_comm, ← Nat.div_div_eq_div_mul]
      exact this

/-! the program's own bits -/
theorem u64_not (x : Nat) (h : x < 18446744073709551616) : bits .xor .u64 IntKind.u64.max (x : Int) = ((18446744073709551615 - x : Nat) : Int) := by
  have e : IntKind.u64.max = ((18446744073709551615 : Nat) : Int) := by decide
  rw [e, u64_xor_nat _ _ (by omega) h]
  congr 1
  have hx : (BitVec.ofNat 64 x).toNat = x := by rw [BitVec.toNat_ofNat]; exact Nat.mod_eq_of_lt h
  have h1 := congrArg BitVec.toNat (BitVec.allOnes_xor (x := BitVec.ofNat 64 x))
  rw [BitVec.toNat_xor, BitVec.toNat_not, BitVec.toNat_allOnes, hx] at h1
  exact h1
theorem fold_neg (n : Int) (h1 : -9223372036854775808 ≤ n) (h : n < 0) : bits .xor .u64 IntKind.u64.max (IntKind.u64.wrap (IntKind.u64.wrap n * 2)) = -2 * n - 1 := by
  have e : IntKind.u64.wrap (IntKind.u64.wrap n * 2) = (((18446744073709551616 + 2 * n).toNat : Nat) : Int) := by
    rw [IntKind.wrap_u64, IntKind.wrap_u64]; omega
  rw [e, u64_not _ (by omega)]; omega
theorem unfold_odd (n : Nat) (h : n < 18446744073709551616) : wrap64 (bits .xor .u64 IntKind.u64.max ((n : Int) / 2)) = -((n : Int) / 2) - 1 := by
  have e : (n : Int) / 2 = ((n / 2 : Nat) : Int) := by omega
  rw [e, u64_not _ (by omega)]; unfold wrap64; omega
theorem and_one (n : Nat) (h : n < 18446744073709551616) : bits .and .u64 (n : Int) 1 = ((n % 2 : Nat) : Int) := by
  rw [show (1 : Int) = ((1 : Nat) : Int) from rfl, u64_and_nat _ _ h (by omega), nat_mask1]
theorem pow7 (i : Nat) : (2 : Nat) ^ (7 * i) = 128 ^ i := by rw [Nat.pow_mul]
/-- A group that more follow, as the program makes it. -/
theorem group_more (n i : Nat) : bits .or .u8 ((n : Int) / 2 ^ (7 * i) % 256) 128 = ((n / 128 ^ i % 128 + 128 : Nat) : Int) := by
  have e : ((n : Int) / 2 ^ (7 * i) % 256) = ((n / 128 ^ i % 256 : Nat) : Int) := by rw [← pow7]; simp
  rw [e]
  refine (u8_or_nat _ 128 (by omega) (by omega)).trans ?_
  rw [u8_or128 _ (by omega)]
  have : n / 128 ^ i % 256 % 128 = n / 128 ^ i % 128 := by omega
  rw [this]
theorem group_last (g : Nat) (h : g < 128) : bits .andNot .u8 ((g : Int) + 128) 128 = (g : Int) := by
  have := u8_andNot_nat (g + 128) 128 (by omega) (by omega)
  have e : ((g + 128 : Nat) : Int) = (g : Int) + 128 := by omega
  rw [e] at this
  refine this.trans ?_
  show (((g + 128) &&& 127 : Nat) : Int) = _
  rw [u8_and127]; omega

/-- One group more, as the program lays it. -/
theorem step_or (i x r : Nat) (hi : i ≤ 9) (hx : x < 128 ^ i) (hr : r < 128) :
    ∃ z : Nat, bits .or .u64 (x : Int) (IntKind.u64.wrap ((r : Int) * 2 ^ (7 * i))) = (z : Int) ∧ z < 18446744073709551616 ∧ (i ≤ 8 ∨ r < 2 → z = x + 128 ^ i * r) := by
  obtain ⟨P, hP⟩ : ∃ P : Nat, P = 128 ^ i := ⟨_, rfl⟩
  have hPi : ((2 : Int) ^ (7 * i)) = (P : Int) := by rw [hP, ← pow7]; simp
  rw [hPi]
  have hPd : P ∣ 18446744073709551616 := by rw [hP, ← pow7]; exact Nat.pow_dvd_pow 2 (m := 7 * i) (n := 64) (by omega)
  have hPl : P ≤ 9223372036854775808 := by rw [hP]; exact Nat.pow_le_pow_right (by omega) hi
  have hP8 : i ≤ 8 → P ≤ 72057594037927936 := fun h => by rw [hP]; exact Nat.pow_le_pow_right (by omega) h
  have hw : IntKind.u64.wrap ((r : Int) * (P : Int)) = ((r * P % 18446744073709551616 : Nat) : Int) := by rw [IntKind.wrap_u64]; simp
  obtain ⟨y, hy⟩ : ∃ y, y = r * P % 18446744073709551616 := ⟨_, rfl⟩
  have hyl : y < 18446744073709551616 := by omega
  rw [hw, ← hy]
  have hxl : x < 18446744073709551616 := by rw [← hP] at hx; omega
  refine ⟨x ||| y, u64_or_nat x y hxl hyl, Nat.or_lt_two_pow (n := 64) hxl hyl, fun h => ?_⟩
  have hym : y % P = 0 := by
    rw [hy, Nat.mod_mod_of_dvd _ hPd]; simp
  have hj : x ||| y = x + y := by
    rw [Nat.or_comm, nat_join (7 * i) y x (by rw [pow7, ← hP]; exact hym) (by rw [pow7]; exact hx), Nat.add_comm]
  rw [hj, hy, ← hP]
  have hlt : r * P < 18446744073709551616 := by
    rcases h with h | h
    · have := hP8 h
      calc r * P ≤ 127 * P := Nat.mul_le_mul_right _ (by omega)
        _ < 18446744073709551616 := by omega
    · calc r * P ≤ 1 * P := Nat.mul_le_mul_right _ (by omega)
        _ < 18446744073709551616 := by omega
  rw [Nat.mod_eq_of_lt hlt, Nat.mul_comm]
theorem val_take_lt (l : List UInt8) (i : Nat) (h : i ≤ l.length) : val (l.take i) < 128 ^ i := by
  have := val_lt (l.take i)
  rwa [List.length_take, Nat.min_eq_left h] at this

def mayEndB (i g : Nat) : Bool := decide ((i = 9 → g < 2) ∧ (i = 0 ∨ g ≠ 0))

/-- What GetUint answers: the integer, the place behind, the error's number. -/
def getU (l : List UInt8) (at_ : Int) : Int × Int × Int :=
  if at_ < 0 ∨ (l.length : Int) < at_ then (0, 0, 1)
  else if 10 ≤ lead (l.drop at_.toNat) then (0, 0, 11)
  else if lead (l.drop at_.toNat) = (l.drop at_.toNat).length then (0, 0, 10)
  else if val ((l.drop at_.toNat).take (lead (l.drop at_.toNat) + 1)) < 18446744073709551616 ∧
      uv (val ((l.drop at_.toNat).take (lead (l.drop at_.toNat) + 1))) = (l.drop at_.toNat).take (lead (l.drop at_.toNat) + 1)
    then ((val ((l.drop at_.toNat).take (lead (l.drop at_.toNat) + 1)) : Int), at_ + lead (l.drop at_.toNat) + 1, 0)
  else (0, 0, 11)
theorem getU_range {l : List UInt8} {at_ v nx er : Int} (h : getU l at_ = (v, nx, er)) :
    0 ≤ v ∧ v ≤ 18446744073709551615 ∧ 0 ≤ nx ∧ nx ≤ l.length ∧ 0 ≤ er ∧ er ≤ 11 ∧ (er ≠ 0 → v = 0 ∧ nx = 0) ∧ (er = 0 → 0 ≤ at_ ∧ at_ < nx) := by
  unfold getU at h
  have hl := lead_le (l.drop at_.toNat)
  have hd := List.length_drop (i := at_.toNat) (l := l)
  split at h
  · simp only [Prod.mk.injEq] at h; omega
  · split at h
    · simp only [Prod.mk.injEq] at h; omega
    · split at h
      · simp only [Prod.mk.injEq] at h; omega
      · split at h
        · simp only [Prod.mk.injEq] at h; omega
        · simp only [Prod.mk.injEq] at h; omega
/-! what the two programs come to, end by end -/
theorem getU_out {l : List UInt8} {a : Int} (h : a < 0 ∨ (l.length : Int) < a) : getU l a = (0, 0, 1) := by unfold getU; rw [if_pos h]
theorem getU_ten {l : List UInt8} {a : Nat} (h1 : a ≤ l.length) (h : 10 ≤ lead (l.drop a)) : getU l a = (0, 0, 11) := by
  unfold getU; rw [if_neg (by omega), Int.toNat_natCast, if_pos h]
theorem getU_short {l : List UInt8} {a i : Nat} (h1 : a + i = l.length) (hi : i < 10) (h : i ≤ lead (l.drop a)) : getU l a = (0, 0, 10) := by
  have hl := lead_le (l.drop a)
  have hd := List.length_drop (i := a) (l := l)
  unfold getU; rw [if_neg (by omega), Int.toNat_natCast, if_neg (by omega), if_pos (by omega)]
theorem lead_here {l : List UInt8} {a i : Nat} (h1 : a + i < l.length) (h : i ≤ lead (l.drop a)) (hb : (l[a + i]).toNat < 128) : lead (l.drop a) = i :=
  lead_eq (fun j hj => lead_lt (by omega)) (by rw [List.getElem?_drop, List.getElem?_eq_getElem h1]) hb
theorem lead_more {l : List UInt8} {a i : Nat} (h1 : a + i < l.length) (h : i ≤ lead (l.drop a)) (hb : ¬ (l[a + i]).toNat < 128) : i + 1 ≤ lead (l.drop a) :=
  lead_ge (fun j hj => by
    by_cases e : j = i
    · subst e; exact ⟨_, by rw [List.getElem?_drop, List.getElem?_eq_getElem h1], by omega⟩
    · exact lead_lt (by omega))
/-- With the place of the last group known: the integer, if the last group may end it. -/
theorem getU_end {l : List UInt8} {a i x : Nat} (h1 : a + i < l.length) (hi : i < 10) (h : lead (l.drop a) = i) (hx : x = val ((l.drop a).take i)) :
    getU l a = if mayEndB i (l[a + i]).toNat = true then (((x + 128 ^ i * (l[a + i]).toNat : Nat) : Int), (a : Int) + i + 1, 0) else (0, 0, 11) := by
  have hd := List.length_drop (i := a) (l := l)
  have hget : (l.drop a)[i]? = some (l[a + i]) := by rw [List.getElem?_drop, List.getElem?_eq_getElem h1]
  have hb : (l[a + i]).toNat < 128 := by
    have hlt : lead (l.drop a) < (l.drop a).length := by omega
    obtain ⟨b, h2, h3⟩ := lead_at hlt
    rw [h, hget] at h2; cases h2; exact h3
  have htk : (l.drop a).take (i + 1) = (l.drop a).take i ++ [l[a + i]] := by
    rw [List.take_succ_eq_append_getElem (by omega)]
    congr 1
    rw [List.getElem_drop]
  have hform : formed ((l.drop a).take i) (l[a + i]) := ⟨fun c hc => by
    obtain ⟨j, hj, rfl⟩ := List.getElem_of_mem hc
    rw [List.length_take] at hj
    obtain ⟨c, h2, h3⟩ := lead_lt (l := l.drop a) (i := j) (by omega)
    rw [List.getElem_take]
    rw [List.getElem?_eq_getElem (by omega)] at h2
    injection h2 with h2
    rw [h2]; exact h3, hb⟩
  have hv : val ((l.drop a).take (i + 1)) = x + 128 ^ i * (l[a + i]).toNat := by
    rw [val_take_succ hget, ← hx, Nat.mod_eq_of_lt hb]
  have hxl : x < 128 ^ i := by rw [hx]; exact val_take_lt _ _ (by omega)
  unfold getU
  rw [if_neg (by omega), Int.toNat_natCast, h, if_neg (by omega), if_neg (by omega), hv]
  have key : (x + 128 ^ i * (l[a + i]).toNat < 18446744073709551616 ∧ uv (x + 128 ^ i * (l[a + i]).toNat) = (l.drop a).take (i + 1)) ↔ mayEndB i (l[a + i]).toNat = true := by
    unfold mayEndB
    rw [decide_eq_true_iff]
    constructor
    · rintro ⟨k1, k2⟩
      constructor
      · rintro rfl
        rcases Nat.lt_or_ge (l[a + 9]).toNat 2 with h2 | h2
        · exact h2
        · have : 128 ^ 9 * 2 ≤ 128 ^ 9 * (l[a + 9]).toNat := Nat.mul_le_mul_left _ h2
          omega
      · by_cases h0 : i = 0
        · exact .inl h0
        · refine .inr (uv_last _ _ _ (k2.trans htk) (fun e => ?_))
          have := congrArg List.length e
          rw [List.length_take] at this
          simp at this; omega
    · rintro ⟨k1, k2⟩
      constructor
      · by_cases h9 : i = 9
        · have h2 := k1 h9
          have e9 : 128 ^ i = 9223372036854775808 := by rw [h9]
          have : 128 ^ i * (l[a + i]).toNat ≤ 128 ^ i * 1 := Nat.mul_le_mul_left _ (by omega)
          rw [e9] at this hxl ⊢
          omega
        · have : val ((l.drop a).take (i + 1)) < 128 ^ (i + 1) := val_take_lt _ _ (by omega)
          rw [hv] at this
          have h3 : 128 ^ (i + 1) ≤ 128 ^ 9 := Nat.pow_le_pow_right (by omega) (by omega)
          have e9 : (128 : Nat) ^ 9 = 9223372036854775808 := by decide
          omega
      · rw [← hv, htk]
        refine uv_val hform ?_
        rcases k2 with k2 | k2
        · left; rw [k2]; rfl
        · exact .inr k2
  by_cases hm : mayEndB i (l[a + i]).toNat = true
  · rw [if_pos hm, if_pos (key.2 hm)]
  · rw [if_neg hm, if_neg (fun e => hm (key.1 e))]
theorem getU_big {l : List UInt8} {a i : Nat} (h1 : a + i < l.length) (hi : i < 10) (h : lead (l.drop a) = i) (hx : ¬ (val ((l.drop a).take (i + 1)) < 18446744073709551616 ∧ uv (val ((l.drop a).take (i + 1))) = (l.drop a).take (i + 1))) : getU l a = (0, 0, 11) := by
  have hd := List.length_drop (i := a) (l := l)
  unfold getU
  rw [if_neg (by omega), Int.toNat_natCast, h, if_neg (by omega), if_neg (by omega), if_neg hx]
theorem getU_good {l : List UInt8} {a i : Nat} (h1 : a + i < l.length) (hi : i < 10) (h : lead (l.drop a) = i) (hx : val ((l.drop a).take (i + 1)) < 18446744073709551616 ∧ uv (val ((l.drop a).take (i + 1))) = (l.drop a).take (i + 1)) : getU l a = ((val ((l.drop a).take (i + 1)) : Int), (a : Int) + i + 1, 0) := by
  have hd := List.length_drop (i := a) (l := l)
  unfold getU
  rw [if_neg (by omega), Int.toNat_natCast, h, if_neg (by omega), if_neg (by omega), if_pos hx]
theorem val_drop (t : List UInt8) (k : Nat) (h : k < t.length) : val (t.drop k) = t[k].toNat % 128 + 128 * val (t.drop (k + 1)) := by
  rw [List.drop_eq_getElem_cons h]; rfl
theorem val_drop_le (t : List UInt8) (k : Nat) : val (t.drop k) ≤ val t := by
  have h := val_append (t.take k) (t.drop k)
  rw [List.take_append_drop] at h
  have : 0 < 128 ^ (t.take k).length := Nat.pow_pos (by omega)
  have := Nat.mul_le_mul_right (val (t.drop k)) this
  omega
/-- An integer's bytes are read back, wherever they stand. -/
theorem getU_uv (a r : List UInt8) (n : Nat) (hn : n < 18446744073709551616) : getU (a ++ (uv n ++ r)) a.length = ((n : Int), (a.length + (uv n).length : Int), 0) := by
  unfold getU
  have h10 := uv_len10 hn
  have hp := uv_pos n
  rw [if_neg (by simp; omega)]
  simp only [Int.toNat_natCast, List.drop_left, lead_uv]
  have ht : (uv n ++ r).take ((uv n).length - 1 + 1) = uv n := by rw [Nat.sub_add_cancel hp]; exact List.take_left
  rw [if_neg (by omega), if_neg (by simp; omega), ht, val_uv, if_pos ⟨hn, rfl⟩]
  simp only [Prod.mk.injEq, and_true, true_and]; omega
/-- Some bytes too few of an integer: ErrShort. -/
theorem getU_cut (a : List UInt8) (n k : Nat) (hn : n < 18446744073709551616) (hk : k < (uv n).length) : getU (a ++ (uv n).take k) a.length = (0, 0, 10) := by
  have h10 := uv_len10 hn
  have hlead : lead ((uv n).take k) = ((uv n).take k).length := by
    have hu := lead_uv n []
    rw [List.append_nil] at hu
    have h1 := lead_le ((uv n).take k)
    rw [List.length_take, Nat.min_eq_left (by omega)] at h1 ⊢
    have h2 : k ≤ lead ((uv n).take k) := lead_ge (fun i hi => by
      obtain ⟨c, hc, hc'⟩ := lead_lt (l := uv n) (i := i) (by omega)
      exact ⟨c, by rw [List.getElem?_take, if_pos hi]; exact hc, hc'⟩)
    omega
  unfold getU
  rw [if_neg (by simp; omega)]
  simp only [Int.toNat_natCast, List.drop_left]
  rw [if_neg (by rw [hlead, List.length_take]; omega), if_pos hlead]
theorem getU_zero {l : List UInt8} {v nx : Nat} (h : getU l 0 = ((v : Int), (nx : Int), 0)) : uv v = l.take nx := by
  unfold getU at h
  split at h
  · simp at h
  · split at h
    · simp at h
    · split at h
      · simp at h
      · split at h
        · rename_i hc
          simp only [Prod.mk.injEq, and_true] at h
          have e : nx = lead (l.drop (0 : Int).toNat) + 1 := by omega
          have e2 : v = val ((l.drop (0 : Int).toNat).take (lead (l.drop (0 : Int).toNat) + 1)) := by omega
          rw [e, e2, hc.2]; rfl
        · simp at h
def getI (l : List UInt8) (at_ : Int) : Int × Int × Int :=
  if (getU l at_).2.2 = 0 then (unfold (getU l at_).1, (getU l at_).2.1, 0) else (0, 0, (getU l at_).2.2)
def getT (l : List UInt8) (at_ : Int) : List UInt8 × Int × Int :=
  if (getU l at_).2.2 = 0 then
    (if (l.length : Int) - (getU l at_).2.1 < (getU l at_).1 then ([], 0, 10)
     else ((l.drop (getU l at_).2.1.toNat).take (getU l at_).1.toNat, (getU l at_).2.1 + (getU l at_).1, 0))
  else ([], 0, (getU l at_).2.2)
def iv (n : Int) : List UInt8 := uv (fold n).toNat
def tx (s : List UInt8) : List UInt8 := uv s.length ++ s
theorem iv_len (n : Int) (h1 : -9223372036854775808 ≤ n) (h2 : n ≤ 9223372036854775807) : (iv n).length ≤ 10 := uv_len10 (by have := fold_range n h1 h2; omega)
theorem tx_len (s : List UInt8) (h : s.length < 18446744073709551616) : (tx s).length ≤ 10 + s.length := by
  have := uv_len10 h
  unfold tx; rw [List.length_append]; omega
theorem iv_inj {a b : Int} (h : iv a = iv b) : a = b := by
  have h1 := uv_inj h
  have : 0 ≤ fold a ∧ 0 ≤ fold b := by unfold fold; split <;> split <;> omega
  exact fold_inj (by omega)
theorem getI_iv (a r : List UInt8) (n : Int) (h1 : -9223372036854775808 ≤ n) (h2 : n ≤ 9223372036854775807) : getI (a ++ (iv n ++ r)) a.length = (n, (a.length + (iv n).length : Int), 0) := by
  have hr := fold_range n h1 h2
  unfold getI iv
  rw [getU_uv a r (fold n).toNat (by omega)]
  simp only [if_true, Prod.mk.injEq, and_true]
  rw [Int.toNat_of_nonneg hr.1, unfold_fold]
theorem getT_tx (a r s : List UInt8) (h : s.length < 18446744073709551616) : getT (a ++ (tx s ++ r)) a.length = (s, (a.length + (tx s).length : Int), 0) := by
  unfold getT tx
  rw [List.append_assoc, getU_uv a (s ++ r) s.length h]
  simp only [if_true]
  rw [if_neg (by simp; omega)]
  have e1 : ((a.length : Int) + ((uv s.length).length : Int)).toNat = (a ++ uv s.length).length := by simp; omega
  have e2 : a ++ (uv s.length ++ (s ++ r)) = (a ++ uv s.length) ++ (s ++ r) := by simp
  rw [e1, e2, List.drop_left, Int.toNat_natCast, List.take_left]
  simp; omega
end Go.Proofs.YtdbifbgjbfnfmaaDoor
/-
  Layer 4 (label): the document's answers as plain functions on lists of bytes, and what follows of them. No program is named.
-/
namespace Go.Proofs.YtdbifbgjbfnfmaaDoor
open Go.RowKit Go.Deep

/-- A label: its name, its value. -/
abbrev Lab := List UInt8 × List UInt8

/-! names -/
def lowC (c : UInt8) : Bool := decide (97 ≤ c.toNat ∧ c.toNat ≤ 122)
def nameC (c : UInt8) : Bool := decide ((97 ≤ c.toNat ∧ c.toNat ≤ 122) ∨ (48 ≤ c.toNat ∧ c.toNat ≤ 57) ∨ c.toNat = 95)
def nameL (s : List UInt8) : Bool := decide (s.length ≤ 16) && (match s with | [] => false | c :: _ => lowC c && s.all nameC)
theorem lowC_nameC {c : UInt8} (h : lowC c = true) : nameC c = true := by
  unfold lowC nameC at *; simp at *; omega
theorem nameL_ne {s : List UInt8} (h : nameL s = true) : s ≠ [] := by rintro rfl; simp [nameL] at h
theorem nameL_all {s : List UInt8} (h : nameL s = true) : ∀ c ∈ s, nameC c = true := by
  unfold nameL at h
  cases s with
  | nil => simp at h
  | cons c r => simp only [Bool.and_eq_true, List.all_eq_true] at h; exact h.2.2
theorem nameL_len {s : List UInt8} (h : nameL s = true) : s.length ≤ 16 := by
  unfold nameL at h; simp only [Bool.and_eq_true, decide_eq_true_eq] at h; exact h.1
theorem nameC_61 {c : UInt8} (h : nameC c = true) : c.toNat ≠ 61 := by unfold nameC at h; simp at h; omega
theorem nameL_61 {s : List UInt8} (h : nameL s = true) : ∀ c ∈ s, c.toNat ≠ 61 := fun c hc => nameC_61 (nameL_all h c hc)
/-- A byte at place i that is none. -/
theorem nameL_bad {s : List UInt8} {i : Nat} (h : i < s.length) (hc : nameC s[i] = false) : nameL s = false := by
  cases hn : nameL s with
  | false => rfl
  | true => exact absurd (nameL_all hn _ (List.getElem_mem h)) (by simp [hc])
theorem nameL_bad0 {s : List UInt8} {h : 0 < s.length} (hc : lowC s[0] = false) : nameL s = false := by
  cases s with
  | nil => simp at h
  | cons c r => simp at hc; simp [nameL, hc]
theorem nameL_good {s : List UInt8} (h0 : 0 < s.length) (h1 : s.length ≤ 16) (hl : lowC s[0] = true) (ha : ∀ i (h : i < s.length), nameC s[i] = true) : nameL s = true := by
  cases s with
  | nil => simp at h0
  | cons c r =>
    unfold nameL
    simp only [Bool.and_eq_true, decide_eq_true_eq, List.all_eq_true]
    refine ⟨h1, by simpa using hl, fun x hx => ?_⟩
    obtain ⟨i, hi, rfl⟩ := List.getElem_of_mem hx
    exact ha i hi
theorem nameL_long {s : List UInt8} (h : 16 < s.length) : nameL s = false := by
  unfold nameL
  rw [show decide (s.length ≤ 16) = false by simp; omega]; rfl

/-! quoting -/
def quoteC (c : UInt8) : List UInt8 := if c.toNat = 34 then [92, 34] else if c.toNat = 92 then [92, 92] else if c.toNat = 10 then [92, 110] else [c]
def quoteB (s : List UInt8) : List UInt8 := s.flatMap quoteC
def quoteL (s : List UInt8) : List UInt8 := 34 :: (quoteB s ++ [34])
theorem quoteB_append (a b : List UInt8) : quoteB (a ++ b) = quoteB a ++ quoteB b := by simp [quoteB]
theorem quoteB_one (c : UInt8) : quoteB [c] = quoteC c := by simp [quoteB]
theorem quoteB_cons (c : UInt8) (r : List UInt8) : quoteB (c :: r) = quoteC c ++ quoteB r := by simp [quoteB]
theorem quoteB_take (s : List UInt8) (i : Nat) (h : i < s.length) : quoteB (s.take (i + 1)) = quoteB (s.take i) ++ quoteC s[i] := by
  rw [List.take_succ_eq_append_getElem h, quoteB_append, quoteB_one]
theorem quoteC_len (c : UInt8) : (quoteC c).length ≤ 2 := by unfold quoteC; (repeat' split) <;> simp
theorem quoteC_pos (c : UInt8) : 1 ≤ (quoteC c).length := by unfold quoteC; (repeat' split) <;> simp
theorem quoteB_len (s : List UInt8) : (quoteB s).length ≤ 2 * s.length := by
  induction s with
  | nil => simp [quoteB]
  | cons c r ih => rw [quoteB_cons, List.length_append, List.length_cons]; have := quoteC_len c; omega
theorem quoteL_len (s : List UInt8) : (quoteL s).length ≤ 2 * s.length + 2 := by have := quoteB_len s; simp [quoteL]; omega
theorem quoteC_10 (c : UInt8) : ∀ x ∈ quoteC c, x.toNat ≠ 10 := by
  unfold quoteC; intro x hx
  split at hx
  · simp at hx; rcases hx with rfl | rfl <;> decide
  · split at hx
    · simp at hx; subst hx; decide
    · split at hx
      · simp at hx; rcases hx with rfl | rfl <;> decide
      · simp at hx; subst hx; assumption
theorem quoteL_10 (s : List UInt8) : ∀ x ∈ quoteL s, x.toNat ≠ 10 := by
  intro x hx
  unfold quoteL quoteB at hx
  simp only [List.mem_cons, List.mem_append, List.mem_flatMap, List.not_mem_nil, or_false] at hx
  rcases hx with rfl | ⟨c, _, hc⟩ | rfl
  · decide
  · exact quoteC_10 c x hc
  · decide

/-- What a quoted text's inside says, and what stands behind its end. -/
def scan : List UInt8 → Option (List UInt8 × List UInt8)
  | [] => none
  | [c] => if c.toNat = 34 then some ([], []) else none
  | c :: d :: r => if c.toNat = 34 then some ([], d :: r)
    else if c.toNat = 92 then (match scan r with | some (v, b) => some ((if d.toNat = 110 then 10 else d) :: v, b) | none => none)
    else (match scan (d :: r) with | some (v, b) => some (c :: v, b) | none => none)
theorem scan_end (c : UInt8) (r : List UInt8) (h : c.toNat = 34) : scan (c :: r) = some ([], r) := by
  cases r <;> simp [scan, h]
theorem scan_plain (c : UInt8) (r : List UInt8) (h : c.toNat ≠ 34) (h2 : c.toNat ≠ 92) : scan (c :: r) = (match scan r with | some (v, b) => some (c :: v, b) | none => none) := by
  cases r <;> simp [scan, h, h2]
theorem scan_esc (c d : UInt8) (r : List UInt8) (h2 : c.toNat = 92) : scan (c :: d :: r) = (match scan r with | some (v, b) => some ((if d.toNat = 110 then 10 else d) :: v, b) | none => none) := by
  simp [scan, h2]
theorem scan_cut (c : UInt8) (h2 : c.toNat = 92) : scan [c] = none := by simp [scan, h2]
theorem u8_eq {a b : UInt8} (h : a.toNat = b.toNat) : a = b := UInt8.toNat_inj.1 h
theorem scan_quote (v r : List UInt8) : scan (quoteB v ++ 34 :: r) = some (v, r) := by
  induction v with
  | nil => exact scan_end 34 r rfl
  | cons c v ih =>
    rw [quoteB_cons, List.append_assoc]
    unfold quoteC
    split
    · rename_i h
      simp only [List.cons_append, List.nil_append]
      rw [scan_esc 92 34 _ rfl, ih]
      have : c = 34 := u8_eq h
      subst this; rfl
    · rename_i h
      split
      · rename_i h2
        simp only [List.cons_append, List.nil_append]
        rw [scan_esc 92 92 _ rfl, ih]
        have : c = 92 := u8_eq h2
        subst this; rfl
      · rename_i h2
        split
        · rename_i h3
          simp only [List.cons_append, List.nil_append]
          rw [scan_esc 92 110 _ rfl, ih]
          have : c = 10 := u8_eq h3
          subst this; rfl
        · simp only [List.cons_append, List.nil_append]
          rw [scan_plain c _ h h2, ih]
theorem quoteL_inj {a b : List UInt8} (h : quoteL a = quoteL b) : a = b := by
  unfold quoteL at h
  injection h with _ h
  have h1 := scan_quote a []
  have h2 := scan_quote b []
  rw [h] at h1
  rw [h1] at h2
  injection h2 with h2; injection h2
theorem scan_len : ∀ (n : Nat) (s v b : List UInt8), s.length ≤ n → scan s = some (v, b) → b.length < s.length ∧ v.length < s.length
  | _, [], v, b, _, h => by simp [scan] at h
  | 0, c :: r, v, b, hn, h => by simp at hn
  | n + 1, c :: r, v, b, hn, h => by
    by_cases h1 : c.toNat = 34
    · rw [scan_end c r h1] at h; injection h with h; injection h with h2 h3; subst h2 h3; simp
    · by_cases h2 : c.toNat = 92
      · cases r with
        | nil => rw [scan_cut c h2] at h; cases h
        | cons d r =>
          rw [scan_esc c d r h2] at h
          cases hs : scan r with
          | none => rw [hs] at h; cases h
          | some x =>
            obtain ⟨v', b'⟩ := x
            rw [hs] at h
            injection h with h; injection h with h3 h4
            have := scan_len n r v' b' (by simp at hn; omega) hs
            subst h3 h4; simp; omega
      · rw [scan_plain c r h1 h2] at h
        cases hs : scan r with
        | none => rw [hs] at h; cases h
        | some x =>
          obtain ⟨v', b'⟩ := x
          rw [hs] at h
          injection h with h; injection h with h3 h4
          have := scan_len n r v' b' (by simp at hn; omega) hs
          subst h3 h4; simp; omega

/-- What the document's Quoted answers. -/
def quotedL (s : List UInt8) : List UInt8 × Nat := match s with
  | [] => ([], 0)
  | c :: r => if c.toNat = 34 then (match scan r with | some (v, b) => (v, s.length - b.length) | none => ([], 0)) else ([], 0)
def pre (acc : List UInt8) (o : Option (List UInt8 × List UInt8)) : Option (List UInt8 × List UInt8) := match o with | some (v, b) => some (acc ++ v, b) | none => none
theorem pre_nil (o : Option (List UInt8 × List UInt8)) : pre [] o = o := by cases o <;> simp [pre]
theorem pre_end {s acc : List UInt8} {i : Nat} (h : i < s.length) (hc : (s[i]).toNat = 34) : pre acc (scan (s.drop i)) = some (acc, s.drop (i + 1)) := by
  rw [List.drop_eq_getElem_cons h, scan_end _ _ hc]; simp [pre]
theorem pre_plain {s acc : List UInt8} {i : Nat} (h : i < s.length) (h1 : (s[i]).toNat ≠ 34) (h2 : (s[i]).toNat ≠ 92) : pre acc (scan (s.drop i)) = pre (acc ++ [s[i]]) (scan (s.drop (i + 1))) := by
  rw [List.drop_eq_getElem_cons h, scan_plain _ _ h1 h2]
  cases scan (s.drop (i + 1)) <;> simp [pre]
theorem pre_cut {s acc : List UInt8} {i : Nat} (h : i + 1 = s.length) (h2 : (s[i]).toNat = 92) : pre acc (scan (s.drop i)) = none := by
  rw [List.drop_eq_getElem_cons (by omega), List.drop_eq_nil_of_le (by omega : s.length ≤ i + 1), scan_cut _ h2]; rfl
theorem pre_esc {s acc : List UInt8} {i : Nat} (h : i + 1 < s.length) (h2 : (s[i]).toNat = 92) : pre acc (scan (s.drop i)) = pre (acc ++ [if (s[i + 1]).toNat = 110 then 10 else s[i + 1]]) (scan (s.drop (i + 2))) := by
  rw [List.drop_eq_getElem_cons (by omega : i < s.length), List.drop_eq_getElem_cons h, scan_esc _ _ _ h2]
  cases scan (s.drop (i + 2)) <;> simp [pre]
theorem pre_none {s acc : List UInt8} : pre acc (scan (s.drop s.length)) = none := by simp [scan, pre]
theorem quotedL_some {s v b : List UInt8} (h0 : 0 < s.length) (hc : (s[0]).toNat = 34) (h : scan (s.drop 1) = some (v, b)) : quotedL s = (v, s.length - b.length) := by
  cases s with
  | nil => simp at h0
  | cons c r => simp at hc h; simp [quotedL, hc, h]
theorem quotedL_none {s : List UInt8} (h0 : 0 < s.length) (h : scan (s.drop 1) = none) : quotedL s = ([], 0) := by
  cases s with
  | nil => simp at h0
  | cons c r => simp at h; simp [quotedL, h]
theorem quotedL_not {s : List UInt8} (h0 : 0 < s.length) (hc : (s[0]).toNat ≠ 34) : quotedL s = ([], 0) := by
  cases s with
  | nil => simp at h0
  | cons c r => simp at hc; simp [quotedL, hc]
theorem quotedL_quote (v r : List UInt8) : quotedL (quoteL v ++ r) = (v, (quoteL v).length) := by
  have h := scan_quote v r
  have e : quoteL v ++ r = 34 :: (quoteB v ++ 34 :: r) := by simp [quoteL]
  rw [e]
  simp only [quotedL]
  rw [if_pos (by decide), h]
  simp [quoteL]
  omega
theorem take_one (s : List UInt8) (i : Nat) (h : i < s.length) : (s.drop i).take 1 = [s[i]] := by
  rw [List.drop_eq_getElem_cons h]; rfl

/-! texts in order -/
theorem less_trans_like (a b : List UInt8) : (!(Op.bytesLess a b || (a == b))) = Op.bytesLess b a := by
  induction a generalizing b with
  | nil => cases b <;> simp [Op.bytesLess]
  | cons x a ih =>
    cases b with
    | nil => simp [Op.bytesLess]
    | cons y b =>
      simp only [Op.bytesLess, List.cons_beq_cons]
      have ih' := ih b
      by_cases h : x = y
      · subst h
        have : (x < x) = False := by simp
        simp [this] at ih' ⊢
        exact ih'
      · have h1 : (x == y) = false := by simpa using h
        have h2 : (y == x) = false := by simpa using fun e => h e.symm
        rw [h1, h2]
        simp only [Bool.false_and, Bool.or_false]
        have e : decide (x < y) = !decide (y < x) := by
          rw [← decide_not]
          apply decide_eq_decide.2
          rw [UInt8.lt_iff_toNat_lt, UInt8.lt_iff_toNat_lt]
          have : x.toNat ≠ y.toNat := fun k => h (u8_eq k)
          omega
        rw [e, Bool.not_not]

theorem less_nil {a : List UInt8} (h : a ≠ []) : Op.bytesLess [] a = true := by cases a <;> simp_all [Op.bytesLess]
end Go.Proofs.YtdbifbgjbfnfmaaDoor
/-
  Layer 4 (label): which texts are of runes: the document's answer, plain; how wide a rune is. No program is named.
-/
namespace Go.Proofs.YtdbifbgjbfnfmaaDoor
open Go.RowKit Go.Deep

/-- How many bytes the rune has with which s begins; 0: none does. -/
def wideL (s : List UInt8) : Nat := if (Lib.decodeL s).1 = 65533 ∧ (Lib.decodeL s).2 = 1 then 0 else (Lib.decodeL s).2
def byt (s : List UInt8) (i : Nat) : Nat := (s.getD i 0).toNat
theorem byt_lt (s : List UInt8) (i : Nat) : byt s i < 256 := (s.getD i 0).toNat_lt
theorem byt_at {s : List UInt8} {i : Nat} (h : i < s.length) : byt s i = (s[i]'h).toNat := by simp [byt, List.getD, h]
theorem wideL_def (s : List UInt8) : wideL s = if (Lib.decodeN s.length (byt s 0) (byt s 1) (byt s 2) (byt s 3)).1 = 65533 ∧ (Lib.decodeN s.length (byt s 0) (byt s 1) (byt s 2) (byt s 3)).2 = 1 then 0 else (Lib.decodeN s.length (byt s 0) (byt s 1) (byt s 2) (byt s 3)).2 := by
  unfold wideL; rw [Lib.decodeL_N]; rfl
theorem wideL_err {s : List UInt8} (e : Lib.decodeN s.length (byt s 0) (byt s 1) (byt s 2) (byt s 3) = (65533, 1)) : wideL s = 0 := by
  rw [wideL_def, e]; simp
theorem wideL_ok {s : List UInt8} {c k : Nat} (e : Lib.decodeN s.length (byt s 0) (byt s 1) (byt s 2) (byt s 3) = (c, k)) (hk : 2 ≤ k) : wideL s = k := by
  rw [wideL_def, e]; simp only; rw [if_neg (by omega)]
theorem decodeN_two {n b0 b1 b2 b3 : Nat} (h : 192 ≤ b0 ∧ b0 < 224) : Lib.decodeN n b0 b1 b2 b3 = if 1 < n ∧ b1 / 64 = 2 ∧ b0 % 32 * 64 + b1 % 64 ≥ 128 then (b0 % 32 * 64 + b1 % 64, 2) else (65533, 1) := by
  unfold Lib.decodeN
  rw [if_neg (by omega)]
  by_cases h1 : 1 < n ∧ b1 / 64 = 2
  · rw [if_pos ⟨by omega, h1⟩]
    by_cases h2 : b0 % 32 * 64 + b1 % 64 ≥ 128
    · rw [if_pos h2, if_pos ⟨h1.1, h1.2, h2⟩]
    · rw [if_neg h2, if_neg (fun h => h2 h.2.2)]
  · rw [if_neg (fun h => h1 h.2), if_neg (fun h => by omega), if_neg (fun h => by omega), if_neg (fun h => h1 ⟨h.1, h.2.1⟩)]
theorem wide_one {s : List UInt8} (h : byt s 0 < 128) : wideL s = 1 := by
  rw [wideL_def]
  have e : Lib.decodeN s.length (byt s 0) (byt s 1) (byt s 2) (byt s 3) = (byt s 0, 1) := by unfold Lib.decodeN; rw [if_pos h]
  rw [e]
  simp only
  rw [if_neg (by omega)]
theorem wide_none {s : List UInt8} (h : (128 ≤ byt s 0 ∧ byt s 0 < 192) ∨ 248 ≤ byt s 0) : wideL s = 0 := by
  rw [wideL_def]
  have hb := byt_lt s 0
  have e : Lib.decodeN s.length (byt s 0) (byt s 1) (byt s 2) (byt s 3) = (65533, 1) := by
    unfold Lib.decodeN
    rw [if_neg (by omega), if_neg (fun h => by omega), if_neg (fun h => by omega), if_neg (fun h => by omega)]
  rw [e]
  simp
theorem wide_two {s : List UInt8} (h : 192 ≤ byt s 0 ∧ byt s 0 < 224) (r : Nat) (hr : r = (byt s 0 - 192) * 64 + byt s 1 - 128) (h1 : 128 ≤ byt s 1 ∧ byt s 1 < 192) (hl : 2 ≤ s.length) : wideL s = if r < 128 then 0 else 2 := by
  by_cases hq : r < 128
  · rw [if_pos hq]; exact wideL_err (by rw [decodeN_two h, if_neg (by omega)])
  · rw [if_neg hq]; exact wideL_ok (by rw [decodeN_two h, if_pos (by omega)]) (by omega)
theorem wide_two_bad {s : List UInt8} (h : 192 ≤ byt s 0 ∧ byt s 0 < 224) (hb : s.length < 2 ∨ byt s 1 < 128 ∨ 192 ≤ byt s 1) : wideL s = 0 := by
  have hl := byt_lt s 1
  exact wideL_err (by rw [decodeN_two h, if_neg (by omega)])
theorem decodeN_three {n b0 b1 b2 b3 : Nat} (h : 224 ≤ b0 ∧ b0 < 240) : Lib.decodeN n b0 b1 b2 b3 = if 2 < n ∧ b1 / 64 = 2 ∧ b2 / 64 = 2 ∧ (2048 ≤ b0 % 16 * 4096 + b1 % 64 * 64 + b2 % 64 ∧ (b0 % 16 * 4096 + b1 % 64 * 64 + b2 % 64 < 55296 ∨ 57344 ≤ b0 % 16 * 4096 + b1 % 64 * 64 + b2 % 64)) then (b0 % 16 * 4096 + b1 % 64 * 64 + b2 % 64, 3) else (65533, 1) := by
  unfold Lib.decodeN
  rw [if_neg (by omega), if_neg (fun h => by omega)]
  by_cases h1 : (1 < n ∧ b1 / 64 = 2) ∧ (2 < n ∧ b2 / 64 = 2)
  · rw [if_pos ⟨by omega, h1⟩]
    generalize hc : b0 % 16 * 4096 + b1 % 64 * 64 + b2 % 64 = c
    have : c < 65536 := by omega
    by_cases h2 : 2048 ≤ c ∧ (c < 55296 ∨ 57344 ≤ c)
    · rw [if_pos (by omega), if_pos ⟨h1.2.1, h1.1.2, h1.2.2, h2⟩]
    · rw [if_neg (by omega), if_neg (fun h => h2 h.2.2.2)]
  · rw [if_neg (fun h => h1 h.2), if_neg (fun h => by omega), if_neg (fun h => h1 ⟨⟨by omega, h.2.1⟩, h.1, h.2.2.1⟩)]
theorem wide_three {s : List UInt8} (h : 224 ≤ byt s 0 ∧ byt s 0 < 240) (r : Nat) (hr : r = ((byt s 0 - 224) * 64 + byt s 1 - 128) * 64 + byt s 2 - 128) (h1 : 128 ≤ byt s 1 ∧ byt s 1 < 192) (h2 : 128 ≤ byt s 2 ∧ byt s 2 < 192) (hl : 3 ≤ s.length) :
    wideL s = if r < 2048 ∨ (55296 ≤ r ∧ r < 57344) then 0 else 3 := by
  by_cases hq : r < 2048 ∨ (55296 ≤ r ∧ r < 57344)
  · rw [if_pos hq]; exact wideL_err (by rw [decodeN_three h, if_neg (by omega)])
  · rw [if_neg hq]; exact wideL_ok (by rw [decodeN_three h, if_pos (by omega)]) (by omega)
theorem wide_three_bad {s : List UInt8} (h : 224 ≤ byt s 0 ∧ byt s 0 < 240) (hb : s.length < 3 ∨ (byt s 1 < 128 ∨ 192 ≤ byt s 1) ∨ (byt s 2 < 128 ∨ 192 ≤ byt s 2)) : wideL s = 0 := by
  have hl := byt_lt s 1
  have hl2 := byt_lt s 2
  exact wideL_err (by rw [decodeN_three h, if_neg (by omega)])
theorem decodeN_four {n b0 b1 b2 b3 : Nat} (h : 240 ≤ b0 ∧ b0 < 248) : Lib.decodeN n b0 b1 b2 b3 = if 3 < n ∧ b1 / 64 = 2 ∧ b2 / 64 = 2 ∧ b3 / 64 = 2 ∧ (65536 ≤ b0 % 8 * 262144 + b1 % 64 * 4096 + b2 % 64 * 64 + b3 % 64 ∧ b0 % 8 * 262144 + b1 % 64 * 4096 + b2 % 64 * 64 + b3 % 64 ≤ 1114111) then (b0 % 8 * 262144 + b1 % 64 * 4096 + b2 % 64 * 64 + b3 % 64, 4) else (65533, 1) := by
  unfold Lib.decodeN
  rw [if_neg (by omega), if_neg (fun h => by omega), if_neg (fun h => by omega)]
  by_cases h1 : (1 < n ∧ b1 / 64 = 2) ∧ (2 < n ∧ b2 / 64 = 2) ∧ (3 < n ∧ b3 / 64 = 2)
  · rw [if_pos ⟨by omega, h1⟩]
    generalize hc : b0 % 8 * 262144 + b1 % 64 * 4096 + b2 % 64 * 64 + b3 % 64 = c
    by_cases h2 : 65536 ≤ c ∧ c ≤ 1114111
    · rw [if_pos (by omega), if_pos ⟨h1.2.2.1, h1.1.2, h1.2.1.2, h1.2.2.2, h2⟩]
    · rw [if_neg (by omega), if_neg (fun h => h2 h.2.2.2.2)]
  · rw [if_neg (fun h => h1 h.2), if_neg (fun h => h1 ⟨⟨by omega, h.2.1⟩, ⟨by omega, h.2.2.1⟩, h.1, h.2.2.2.1⟩)]
theorem wide_four {s : List UInt8} (h : 240 ≤ byt s 0 ∧ byt s 0 < 248) (r : Nat) (hr : r = (((byt s 0 - 240) * 64 + byt s 1 - 128) * 64 + byt s 2 - 128) * 64 + byt s 3 - 128) (h1 : 128 ≤ byt s 1 ∧ byt s 1 < 192) (h2 : 128 ≤ byt s 2 ∧ byt s 2 < 192) (h3 : 128 ≤ byt s 3 ∧ byt s 3 < 192) (hl : 4 ≤ s.length) :
    wideL s = if r < 65536 ∨ 1114111 < r then 0 else 4 := by
  by_cases hq : r < 65536 ∨ 1114111 < r
  · rw [if_pos hq]; exact wideL_err (by rw [decodeN_four h, if_neg (by omega)])
  · rw [if_neg hq]; exact wideL_ok (by rw [decodeN_four h, if_pos (by omega)]) (by omega)
theorem wide_four_bad {s : List UInt8} (h : 240 ≤ byt s 0 ∧ byt s 0 < 248) (hb : s.length < 4 ∨ (byt s 1 < 128 ∨ 192 ≤ byt s 1) ∨ (byt s 2 < 128 ∨ 192 ≤ byt s 2) ∨ (byt s 3 < 128 ∨ 192 ≤ byt s 3)) : wideL s = 0 := by
  have hl := byt_lt s 1
  have hl2 := byt_lt s 2
  have hl3 := byt_lt s 3
  exact wideL_err (by rw [decodeN_four h, if_neg (by omega)])
/-- Each rune is one: the document's way. -/
def utfL : Nat → List UInt8 → Bool
  | 0, _ => true
  | n + 1, s => if s = [] then true else if wideL s = 0 then false else utfL n (s.drop (wideL s))
def valueL (s : List UInt8) : Bool := decide (s.length ≤ 32) && utfL s.length s
theorem wide_le {s : List UInt8} (h : s ≠ []) : wideL s ≤ s.length := by
  have hp : 1 ≤ s.length := by cases s <;> simp_all
  have hb := byt_lt s 0
  by_cases c1 : byt s 0 < 128
  · rw [wide_one c1]; exact hp
  by_cases c2 : byt s 0 < 192
  · rw [wide_none (.inl ⟨by omega, c2⟩)]; omega
  by_cases c3 : byt s 0 < 224
  · have e := decodeN_two (n := s.length) (b1 := byt s 1) (b2 := byt s 2) (b3 := byt s 3) (b0 := byt s 0) ⟨by omega, c3⟩
    split at e
    · rename_i hh; rw [wideL_ok e (by omega)]; omega
    · rw [wideL_err e]; omega
  by_cases c4 : byt s 0 < 240
  · have e := decodeN_three (n := s.length) (b1 := byt s 1) (b2 := byt s 2) (b3 := byt s 3) (b0 := byt s 0) ⟨by omega, c4⟩
    split at e
    · rename_i hh; rw [wideL_ok e (by omega)]; omega
    · rw [wideL_err e]; omega
  by_cases c5 : byt s 0 < 248
  · have e := decodeN_four (n := s.length) (b1 := byt s 1) (b2 := byt s 2) (b3 := byt s 3) (b0 := byt s 0) ⟨by omega, c5⟩
    split at e
    · rename_i hh; rw [wideL_ok e (by omega)]; omega
    · rw [wideL_err e]; omega
  · rw [wide_none (.inr (by omega))]; omega
theorem utf_more : ∀ (n m : Nat) (s : List UInt8), s.length ≤ n → n ≤ m → utfL n s = utfL m s
  | 0, m, s, h, _ => by
    obtain rfl : s = [] := List.eq_nil_of_length_eq_zero (by omega)
    cases m <;> simp [utfL]
  | n + 1, 0, s, _, h => by omega
  | n + 1, m + 1, s, h, hm => by
    simp only [utfL]
    by_cases hs : s = []
    · simp [hs]
    · by_cases hw : wideL s = 0
      · simp [hs, hw]
      · rw [if_neg hs, if_neg hs, if_neg hw, if_neg hw]
        exact utf_more n m _ (by rw [List.length_drop]; omega) (by omega)
theorem utf_nil (n : Nat) : utfL n [] = true := by cases n <;> simp [utfL]
theorem utf_step {s : List UInt8} (h : s ≠ []) (hw : wideL s ≠ 0) : utfL s.length s = utfL (s.drop (wideL s)).length (s.drop (wideL s)) := by
  have hp : 1 ≤ s.length := by cases s <;> simp_all
  obtain ⟨n, hn⟩ : ∃ n, s.length = n + 1 := ⟨s.length - 1, by omega⟩
  rw [hn]
  simp only [utfL]
  rw [if_neg h, if_neg hw]
  exact (utf_more _ n _ (Nat.le_refl _) (by rw [List.length_drop]; omega)).symm
theorem utf_bad {s : List UInt8} (h : s ≠ []) (hw : wideL s = 0) : utfL s.length s = false := by
  have hp : 1 ≤ s.length := by cases s <;> simp_all
  obtain ⟨n, hn⟩ : ∃ n, s.length = n + 1 := ⟨s.length - 1, by omega⟩
  rw [hn]
  simp only [utfL]
  rw [if_neg h, if_pos hw]
theorem valueL_long {s : List UInt8} (h : 32 < s.length) : valueL s = false := by
  unfold valueL; rw [show decide (s.length ≤ 32) = false by simp; omega]; rfl
theorem valueL_of {s : List UInt8} (h : s.length ≤ 32) : valueL s = utfL s.length s := by
  unfold valueL; rw [show decide (s.length ≤ 32) = true by simp; omega]; rfl
theorem valueL_len {s : List UInt8} (h : valueL s = true) : s.length ≤ 32 := by
  unfold valueL at h; simp only [Bool.and_eq_true, decide_eq_true_eq] at h; exact h.1
theorem dec_65533 (s : List UInt8) (h : (Lib.decodeL s).1 = 65533) : (Lib.decodeL s).2 = 1 ∨ (Lib.decodeL s).2 = 3 := by
  rw [Lib.decodeL_N] at *
  generalize (s.getD 0 0).toNat = b0 at *
  generalize (s.getD 1 0).toNat = b1 at *
  generalize (s.getD 2 0).toNat = b2 at *
  generalize (s.getD 3 0).toNat = b3 at *
  unfold Lib.decodeN at *
  by_cases c1 : b0 < 128
  · rw [if_pos c1]; exact .inl rfl
  rw [if_neg c1] at *
  by_cases c2 : b0 / 32 = 6 ∧ (1 < s.length ∧ b1 / 64 = 2)
  · rw [if_pos c2] at *
    split
    · rename_i hc; rw [if_pos hc] at h; simp only at h; omega
    · exact .inl rfl
  rw [if_neg c2] at *
  by_cases c3 : b0 / 16 = 14 ∧ (1 < s.length ∧ b1 / 64 = 2) ∧ (2 < s.length ∧ b2 / 64 = 2)
  · rw [if_pos c3] at *
    split
    · exact .inr rfl
    · exact .inl rfl
  rw [if_neg c3] at *
  split
  · rename_i c4
    rw [if_pos c4] at h
    split
    · rename_i hc; rw [if_pos hc] at h; simp only at h; omega
    · exact .inl rfl
  · exact .inl rfl
/-- A rune, or none. -/
theorem dec_cases (s : List UInt8) : ((Lib.decodeL s).1 = 65533 ∧ (Lib.decodeL s).2 = 1 ∧ wideL s = 0) ∨ ((Lib.decodeL s).2 = wideL s ∧ 1 ≤ wideL s ∧ ((Lib.decodeL s).1 = 65533 → wideL s = 3)) := by
  have h := dec_65533 s
  have hw := Lib.decodeL_width s
  unfold wideL
  by_cases hc : (Lib.decodeL s).1 = 65533 ∧ (Lib.decodeL s).2 = 1
  · rw [if_pos hc]; exact .inl ⟨hc.1, hc.2, rfl⟩
  · rw [if_neg hc]
    refine .inr ⟨rfl, hw, fun e => ?_⟩
    rcases h e with k | k
    · exact absurd ⟨e, k⟩ hc
    · exact k
theorem decode_str (s : List UInt8) (pos : Nat) : Utf8.decode (str s) pos = Lib.decodeL (s.drop pos) := by
  rw [← Lib.decodeL_drop, str_data]
end Go.Proofs.YtdbifbgjbfnfmaaDoor
/-
  Layer 4 (label): labels that may be, their text, their key, plain; what follows. No program is named.
-/
namespace Go.Proofs.YtdbifbgjbfnfmaaDoor
open Go.RowKit Go.Deep

/-! labels that may be -/
def okFrom (ahead : List UInt8) : List Lab → Bool
  | [] => true
  | x :: r => nameL x.1 && (valueL x.2 && (!(x.2 == []) && (Op.bytesLess ahead x.1 && okFrom x.1 r)))
def okL (l : List Lab) : Bool := decide (l.length ≤ 8) && okFrom [] l
theorem okL_long {l : List Lab} (h : 8 < l.length) : okL l = false := by unfold okL; rw [show decide (l.length ≤ 8) = false by simp; omega]; rfl
theorem okL_of {l : List Lab} (h : l.length ≤ 8) : okL l = okFrom [] l := by unfold okL; rw [show decide (l.length ≤ 8) = true by simp; omega]; rfl
theorem okFrom_at {a : List UInt8} {l : List Lab} {i : Nat} (h : i < l.length) : okFrom a (l.drop i) = (nameL l[i].1 && (valueL l[i].2 && (!(l[i].2 == []) && (Op.bytesLess a l[i].1 && okFrom l[i].1 (l.drop (i + 1)))))) := by
  rw [List.drop_eq_getElem_cons h, okFrom]
theorem okFrom_end (a : List UInt8) (l : List Lab) : okFrom a (l.drop l.length) = true := by rw [List.drop_length, okFrom]
def prevN (l : List Lab) (i : Nat) : List UInt8 := if h : 0 < i ∧ i - 1 < l.length then (l[i - 1]'h.2).1 else []
theorem prevN_zero (l : List Lab) : prevN l 0 = [] := by unfold prevN; rw [dif_neg (by omega)]
theorem prevN_succ {l : List Lab} {i : Nat} (h : i < l.length) : prevN l (i + 1) = l[i].1 := by unfold prevN; rw [dif_pos ⟨by omega, by simpa using h⟩]; simp
theorem okFrom_mem {a : List UInt8} {l : List Lab} (h : okFrom a l = true) : ∀ x ∈ l, nameL x.1 = true ∧ valueL x.2 = true ∧ x.2 ≠ [] := by
  induction l generalizing a with
  | nil => intro x hx; simp at hx
  | cons y r ih =>
    simp only [okFrom, Bool.and_eq_true] at h
    intro x hx
    rcases List.mem_cons.1 hx with rfl | hx
    · refine ⟨h.1, h.2.1, ?_⟩
      intro e
      have := h.2.2.1
      rw [e] at this
      simp at this
    · exact ih h.2.2.2.2 x hx
theorem okL_len {l : List Lab} (h : okL l = true) : l.length ≤ 8 := by unfold okL at h; simp only [Bool.and_eq_true, decide_eq_true_eq] at h; exact h.1
theorem okL_from {l : List Lab} (h : okL l = true) : okFrom [] l = true := by unfold okL at h; simp only [Bool.and_eq_true, decide_eq_true_eq] at h; exact h.2
theorem okL_mem {l : List Lab} (h : okL l = true) : ∀ x ∈ l, nameL x.1 = true ∧ valueL x.2 = true ∧ x.2 ≠ [] := okFrom_mem (okL_from h)
def eOf (b : Bool) : Int := if b then 0 else 40

/-! their text -/
def partL (x : Lab) : List UInt8 := x.1 ++ 61 :: quoteL x.2
def tailB (l : List Lab) : List UInt8 := l.flatMap fun x => 44 :: partL x
def printB : List Lab → List UInt8
  | [] => []
  | x :: r => partL x ++ tailB r
def printL (l : List Lab) : List UInt8 := 123 :: (printB l ++ [125])
theorem tailB_append (a b : List Lab) : tailB (a ++ b) = tailB a ++ tailB b := by simp [tailB]
theorem printB_snoc (l : List Lab) (x : Lab) : printB (l ++ [x]) = printB l ++ ((if l = [] then [] else [44]) ++ partL x) := by
  cases l with
  | nil => simp [printB, tailB]
  | cons y r =>
    rw [List.cons_append, printB, printB, tailB_append]
    simp [tailB]
theorem printB_take {l : List Lab} {i : Nat} (h : i < l.length) : printB (l.take (i + 1)) = printB (l.take i) ++ ((if i = 0 then [] else [44]) ++ (l[i].1 ++ 61 :: quoteL l[i].2)) := by
  rw [List.take_succ_eq_append_getElem h, printB_snoc]
  by_cases hi : i = 0
  · subst hi; simp [partL]
  · rw [if_neg hi, if_neg (fun e => hi (by have := congrArg List.length e; simp only [List.length_take, List.length_nil] at this; omega))]; rfl
theorem partL_len {x : Lab} : (partL x).length ≤ x.1.length + 2 * x.2.length + 3 := by
  have := quoteL_len x.2; simp [partL]; omega
theorem printB_join (l : List Lab) : Lib.join (l.map partL) [44] = printB l := by
  cases l with
  | nil => rfl
  | cons x r =>
    rw [List.map_cons, Lib.join_cons, printB]
    simp [Lib.joinTail, tailB, List.flatMap, List.map_map, Function.comp_def]
theorem partL_ok {l : List Lab} (h : okL l = true) : ∀ x ∈ l, (partL x).length ≤ 83 := by
  intro x hx
  obtain ⟨h1, h2, _⟩ := okL_mem h x hx
  have := nameL_len h1
  have := valueL_len h2
  have := @partL_len x
  omega
theorem tailB_len {l : List Lab} (h : ∀ x ∈ l, (partL x).length ≤ 83) : (tailB l).length ≤ 84 * l.length := by
  induction l with
  | nil => simp [tailB]
  | cons x r ih =>
    have h1 := h x (by simp)
    have h2 := ih (fun y hy => h y (by simp [hy]))
    simp only [tailB, List.flatMap_cons, List.length_append, List.length_cons] at h2 ⊢
    omega
theorem printB_len {l : List Lab} (h : ∀ x ∈ l, (partL x).length ≤ 83) : (printB l).length ≤ 84 * l.length := by
  cases l with
  | nil => simp [printB]
  | cons x r =>
    have h1 := h x (by simp)
    have h2 := tailB_len (l := r) (fun y hy => h y (by simp [hy]))
    rw [printB, List.length_append, List.length_cons]
    omega
theorem printL_len {l : List Lab} (h : okL l = true) : (printL l).length ≤ 700 := by
  have h1 := printB_len (partL_ok h)
  have h2 := okL_len h
  simp [printL]; omega
theorem printL_two (l : List Lab) : 2 ≤ (printL l).length := by simp [printL]

/-! what a text could be the print of -/
/-- s, cut at its first '='. -/
def cutE : List UInt8 → Option (List UInt8 × List UInt8)
  | [] => none
  | c :: r => if c.toNat = 61 then some ([], r) else (match cutE r with | some (a, b) => some (c :: a, b) | none => none)
theorem cutE_name {n r : List UInt8} (h : ∀ c ∈ n, c.toNat ≠ 61) : cutE (n ++ 61 :: r) = some (n, r) := by
  induction n with
  | nil => rfl
  | cons c n ih =>
    have h1 := h c (by simp)
    rw [List.cons_append, cutE, if_neg h1, ih (fun x hx => h x (by simp [hx]))]
theorem printB_cons (x : Lab) (r : List Lab) : printB (x :: r) = x.1 ++ 61 :: (34 :: (quoteB x.2 ++ 34 :: tailB r)) := by
  simp [printB, partL, quoteL]
theorem cutE_print {x : Lab} {r : List Lab} (h : nameL x.1 = true) : cutE (printB (x :: r)) = some (x.1, 34 :: (quoteB x.2 ++ 34 :: tailB r)) := by
  rw [printB_cons, cutE_name (nameL_61 h)]
theorem tail_trim (r : List Lab) : (match tailB r with | 44 :: t => t | t => t) = printB r := by
  cases r with
  | nil => rfl
  | cons x r => simp [tailB, printB]
theorem printB_ne {x : Lab} {r : List Lab} : printB (x :: r) ≠ [] := by rw [printB_cons]; simp
theorem printB_inj : ∀ (a b : List Lab), (∀ x ∈ a, nameL x.1 = true) → (∀ x ∈ b, nameL x.1 = true) → printB a = printB b → a = b
  | [], [], _, _, _ => rfl
  | [], y :: b, _, _, h => absurd h.symm printB_ne
  | x :: a, [], _, _, h => absurd h printB_ne
  | x :: a, y :: b, ha, hb, h => by
    have h1 := cutE_print (r := a) (ha x (by simp))
    have h2 := cutE_print (r := b) (hb y (by simp))
    rw [h] at h1
    rw [h1] at h2
    injection h2 with h2
    injection h2 with h3 h4
    injection h4 with _ h4
    have k1 := scan_quote x.2 (tailB a)
    have k2 := scan_quote y.2 (tailB b)
    rw [h4] at k1
    rw [k1] at k2
    injection k2 with k2
    injection k2 with k3 k4
    have k5 : printB a = printB b := by rw [← tail_trim a, ← tail_trim b, k4]
    have k6 := printB_inj a b (fun z hz => ha z (by simp [hz])) (fun z hz => hb z (by simp [hz])) k5
    rw [k6]
    have : x = y := Prod.ext h3 k3
    rw [this]
theorem printL_inj {a b : List Lab} (ha : okL a = true) (hb : okL b = true) (h : printL a = printL b) : a = b := by
  unfold printL at h
  injection h with _ h
  have h := List.append_cancel_right h
  exact printB_inj a b (fun x hx => (okL_mem ha x hx).1) (fun x hx => (okL_mem hb x hx).1) h
/-- The labels whose text is s. -/
noncomputable def parseL (s : List UInt8) : Option (List Lab) := open Classical in if h : ∃ l, okL l = true ∧ printL l = s then some h.choose else none
theorem parseL_some {s : List UInt8} {l : List Lab} (h1 : okL l = true) (h2 : printL l = s) : parseL s = some l := by
  unfold parseL
  rw [dif_pos ⟨l, h1, h2⟩]
  have h := (⟨l, h1, h2⟩ : ∃ l, okL l = true ∧ printL l = s).choose_spec
  rw [printL_inj h.1 h1 (h.2.trans h2.symm)]
theorem parseL_none {s : List UInt8} (h : ∀ l, okL l = true → printL l ≠ s) : parseL s = none := by
  unfold parseL
  rw [dif_neg (fun ⟨l, h1, h2⟩ => h l h1 h2)]
theorem parseL_of {s : List UInt8} {l : List Lab} (h : parseL s = some l) : okL l = true ∧ printL l = s := by
  unfold parseL at h
  split at h
  · rename_i hh; injection h with h; rw [← h]; exact hh.choose_spec
  · cases h

/-! their key -/
def keyL (l : List Lab) : List UInt8 := l.flatMap fun x => tx x.1 ++ tx x.2
theorem keyL_append (a b : List Lab) : keyL (a ++ b) = keyL a ++ keyL b := by simp [keyL]
theorem keyL_take {l : List Lab} {i : Nat} (h : i < l.length) : keyL (l.take (i + 1)) = keyL (l.take i) ++ (tx l[i].1 ++ tx l[i].2) := by
  rw [List.take_succ_eq_append_getElem h, keyL_append]; simp [keyL]
theorem tx_inj {a b r q : List UInt8} (ha : a.length < 18446744073709551616) (hb : b.length < 18446744073709551616) (h : tx a ++ r = tx b ++ q) : a = b ∧ r = q := by
  have h1 := getT_tx [] r a ha
  have h2 := getT_tx [] q b hb
  simp only [List.nil_append] at h1 h2
  rw [h, h2] at h1
  injection h1 with h1 _
  subst h1
  exact ⟨rfl, List.append_cancel_left h⟩
theorem tx_ne (a : List UInt8) : tx a ≠ [] := by
  intro h
  have := congrArg List.length h
  have h2 := uv_pos a.length
  simp only [tx, List.length_append, List.length_nil] at this
  omega
theorem keyL_inj : ∀ (a b : List Lab), (∀ x ∈ a, x.1.length < 18446744073709551616 ∧ x.2.length < 18446744073709551616) → (∀ x ∈ b, x.1.length < 18446744073709551616 ∧ x.2.length < 18446744073709551616) → keyL a = keyL b → a = b
  | [], [], _, _, _ => rfl
  | [], y :: b, _, _, h => by simp [keyL] at h; exact absurd h.1 (tx_ne _)
  | x :: a, [], _, _, h => by simp [keyL] at h; exact absurd h.1 (tx_ne _)
  | x :: a, y :: b, ha, hb, h => by
    have hx := ha x (by simp)
    have hy := hb y (by simp)
    simp only [keyL, List.flatMap_cons, List.append_assoc] at h
    obtain ⟨h1, h⟩ := tx_inj hx.1 hy.1 h
    obtain ⟨h2, h⟩ := tx_inj hx.2 hy.2 h
    have h3 := keyL_inj a b (fun z hz => ha z (by simp [hz])) (fun z hz => hb z (by simp [hz])) h
    rw [h3]
    have : x = y := Prod.ext h1 h2
    rw [this]
theorem okL_small {l : List Lab} (h : okL l = true) : ∀ x ∈ l, x.1.length < 18446744073709551616 ∧ x.2.length < 18446744073709551616 := by
  intro x hx
  obtain ⟨h1, h2, _⟩ := okL_mem h x hx
  have := nameL_len h1
  have := valueL_len h2
  omega
theorem tx_len_le (s : List UInt8) (h : s.length ≤ 32) : (tx s).length ≤ 42 := by have := tx_len s (by omega); omega
theorem keyL_len {l : List Lab} (h : ∀ x ∈ l, x.1.length ≤ 32 ∧ x.2.length ≤ 32) : (keyL l).length ≤ 84 * l.length := by
  induction l with
  | nil => simp [keyL]
  | cons x r ih =>
    have h1 := h x (by simp)
    have h2 := ih (fun y hy => h y (by simp [hy]))
    have h3 := tx_len_le x.1 h1.1
    have h4 := tx_len_le x.2 h1.2
    simp only [keyL, List.flatMap_cons, List.length_append, List.length_cons] at h2 ⊢
    omega
theorem okL_32 {l : List Lab} (h : okL l = true) : ∀ x ∈ l, x.1.length ≤ 32 ∧ x.2.length ≤ 32 := by
  intro x hx
  obtain ⟨h1, h2, _⟩ := okL_mem h x hx
  have := nameL_len h1
  have := valueL_len h2
  omega

/-! the value of a name -/
def getL (l : List Lab) (n : List UInt8) : List UInt8 := match l with
  | [] => []
  | x :: r => if x.1 = n then x.2 else getL r n
theorem getL_here {l : List Lab} {n : List UInt8} {i : Nat} (h : i < l.length) (e : l[i].1 = n) : getL (l.drop i) n = l[i].2 := by
  rw [List.drop_eq_getElem_cons h, getL, if_pos e]
theorem getL_far {l : List Lab} {n : List UInt8} {i : Nat} (h : i < l.length) (e : l[i].1 ≠ n) : getL (l.drop i) n = getL (l.drop (i + 1)) n := by
  rw [List.drop_eq_getElem_cons h, getL, if_neg e]
theorem getL_end (l : List Lab) (n : List UInt8) : getL (l.drop l.length) n = [] := by rw [List.drop_length, getL]
end Go.Proofs.YtdbifbgjbfnfmaaDoor
/-
  Layer 7 (index): series, plain: who is found, who is added. No program is named.
-/
namespace Go.Proofs.YtdbifbgjbfnfmaaDoor
set_option linter.unusedVariables false
set_option linter.unusedSimpArgs false

/-- Series, by their ids. -/
abbrev Ix := List (List Lab)
def findX : Ix → List Lab → Option Nat
  | [], _ => none
  | m :: X, l => if m = l then some 0 else (findX X l).map (· + 1)
theorem findX_none {X : Ix} {l : List Lab} : findX X l = none ↔ l ∉ X := by
  induction X with
  | nil => simp [findX]
  | cons m X ih =>
    unfold findX
    by_cases h : m = l
    · subst h; simp
    · rw [if_neg h]; simp [ih, Ne.symm h]
theorem findX_some {X : Ix} {l : List Lab} {i : Nat} : findX X l = some i ↔ ∃ h : i < X.length, X[i] = l ∧ ∀ j (hj : j < i), X[j] ≠ l := by
  induction X generalizing i with
  | nil => simp [findX]
  | cons m X ih =>
    unfold findX
    by_cases h : m = l
    · subst h
      rw [if_pos rfl]
      cases i with
      | zero => simp
      | succ i => simp only [Option.some.injEq]; constructor
                  · intro e; omega
                  · rintro ⟨_, _, h3⟩; exact absurd rfl (h3 0 (by omega))
    · rw [if_neg h]
      cases i with
      | zero => simp only [Option.map_eq_some_iff]; constructor
                · rintro ⟨a, _, e⟩; omega
                · rintro ⟨_, e, _⟩; exact absurd e h
      | succ i =>
        simp only [Option.map_eq_some_iff, Nat.add_right_cancel_iff, exists_eq_right, ih]
        constructor
        · rintro ⟨h1, h2, h3⟩
          refine ⟨by simpa using h1, by simpa using h2, fun j hj => ?_⟩
          cases j with
          | zero => simpa using h
          | succ j => simpa using h3 j (by omega)
        · rintro ⟨h1, h2, h3⟩
          exact ⟨by simpa using h1, by simpa using h2, fun j hj => by simpa using h3 (j + 1) (by omega)⟩
theorem findX_at {X : Ix} {l : List Lab} {i : Nat} (h : i < X.length) (e : X[i] = l) (hn : l ∉ X.take i) : findX X l = some i :=
  findX_some.2 ⟨h, e, fun j hj e2 => hn (by rw [← e2]; exact List.mem_take_iff_getElem.2 ⟨j, by omega, rfl⟩)⟩
/-- What Find answers. -/
def idF (X : Ix) (l : List Lab) : Int := match findX X l with | some i => i | none => -1
def isF (X : Ix) (l : List Lab) : Bool := decide (l ∈ X)
/-- What Add answers, and what there is then. -/
def addI (X : Ix) (l : List Lab) : Int := if okL l = true then (match findX X l with | some i => (i : Int) | none => if 200 ≤ X.length then 0 else X.length) else 0
def addE (X : Ix) (l : List Lab) : Int := if okL l = true then (if l ∈ X then 0 else if 200 ≤ X.length then 2 else 0) else 40
def addX (X : Ix) (l : List Lab) : Ix := if okL l = true ∧ l ∉ X ∧ X.length < 200 then X ++ [l] else X
/-- Series that an index may have. -/
structure Good (X : Ix) : Prop where
  few : X.length ≤ 200
  ok : ∀ l ∈ X, okL l = true
  once : X.Nodup
theorem Good.nil : Good [] := ⟨by simp, by simp, by simp⟩
theorem Good.add {X : Ix} (h : Good X) (l : List Lab) : Good (addX X l) := by
  unfold addX
  split
  · rename_i hc
    refine ⟨by simp; omega, fun m hm => ?_, ?_⟩
    · rcases List.mem_append.1 hm with hm | hm
      · exact h.ok m hm
      · simp at hm; subst hm; exact hc.1
    · rw [List.nodup_append]
      exact ⟨h.once, by simp, fun a ha b hb => by simp at hb; subst hb; exact fun e => hc.2.1 (e ▸ ha)⟩
  · exact h
theorem findX_good {X : Ix} (h : Good X) {i : Nat} (hi : i < X.length) : findX X X[i] = some i := by
  refine findX_some.2 ⟨hi, rfl, fun j hj e => ?_⟩
  have := (List.getElem_inj h.once).1 e
  omega
/-- Labels that are added one by one. -/
def addAll (X : Ix) (ls : List (List Lab)) : Ix := ls.foldl addX X
theorem Good.all {X : Ix} (h : Good X) (ls : List (List Lab)) : Good (addAll X ls) := by
  induction ls generalizing X with
  | nil => exact h
  | cons l ls ih => exact ih (h.add l)
theorem addAll_take (X : Ix) (ls : List (List Lab)) (i : Nat) (h : i < ls.length) : addAll X (ls.take (i + 1)) = addX (addAll X (ls.take i)) ls[i] := by
  unfold addAll; rw [List.take_succ_eq_append_getElem h, List.foldl_append]; rfl
/-- What is there is not added anew. -/
theorem addX_mem {X : Ix} {l : List Lab} (h : l ∈ X) : addX X l = X := by unfold addX; rw [if_neg (by simp [h])]
theorem addE_mem {X : Ix} {l : List Lab} (h : l ∈ X) (ho : okL l = true) : addE X l = 0 := by unfold addE; rw [if_pos ho, if_pos h]
theorem mem_addX {X : Ix} {l m : List Lab} (h : m ∈ X) : m ∈ addX X l := by unfold addX; split <;> simp [h]
theorem len_addX (X : Ix) (l : List Lab) : X.length ≤ (addX X l).length := by unfold addX; split <;> simp
theorem len_addAll (X : Ix) (ls : List (List Lab)) : X.length ≤ (addAll X ls).length := by
  induction ls generalizing X with
  | nil => exact Nat.le_refl _
  | cons l ls ih => exact Nat.le_trans (len_addX X l) (ih (addX X l))
theorem mem_addAll {X : Ix} {ls : List (List Lab)} {m : List Lab} (h : m ∈ X) : m ∈ addAll X ls := by
  induction ls generalizing X with
  | nil => exact h
  | cons l ls ih => exact ih (mem_addX h)
theorem added {X : Ix} {ls : List (List Lab)} {m : List Lab} (hm : m ∈ ls) (ho : okL m = true) (hf : (addAll X ls).length < 200) : m ∈ addAll X ls := by
  induction ls generalizing X with
  | nil => simp at hm
  | cons l ls ih =>
    rcases List.mem_cons.1 hm with rfl | hm
    · have h1 := len_addAll (addX X m) ls
      have h2 := len_addX X m
      have h3 : (addAll (addX X m) ls).length < 200 := hf
      refine mem_addAll (X := addX X m) ?_
      by_cases hx : m ∈ X
      · exact mem_addX hx
      · unfold addX; rw [if_pos ⟨ho, hx, by omega⟩]; simp
    · exact ih hm hf
/-- Labels that are added again change nothing. -/
theorem add_again {X : Ix} {ls : List (List Lab)} {m : List Lab} (hm : m ∈ ls) : addX (addAll X ls) m = addAll X ls := by
  unfold addX
  rw [if_neg]
  rintro ⟨h1, h2, h3⟩
  exact h2 (added hm h1 h3)
end Go.Proofs.YtdbifbgjbfnfmaaDoor
/-
  Plain lemmas on memory: what a call keeps of the blocks that there were; blocks known whole. They name no program.
-/
namespace Go.Proofs.YtdbifbgjbfnfmaaDoor
open Go.RowKit Go.Deep

/-- Of the blocks that there were, all but those in F are as they were; none has gone. -/
structure Keeps (F : List Nat) (w w' : World) : Prop where
  os : w'.os = w.os
  tape : w'.tape = w.tape
  output : w'.output = w.output
  size : w.heap.size ≤ w'.heap.size
  same : ∀ k, k < w.heap.size → k ∉ F → w'.heap[k]? = w.heap[k]?

namespace Keeps
variable {F G : List Nat} {a b c w : World}
theorem refl (F : List Nat) (w : World) : Keeps F w w := ⟨rfl, rfl, rfl, Nat.le_refl _, fun _ _ _ => rfl⟩
theorem trans (h : Keeps F a b) (k : Keeps G b c) (hG : ∀ g, g ∈ G → g ∈ F ∨ a.heap.size ≤ g) : Keeps F a c :=
  ⟨k.os.trans h.os, k.tape.trans h.tape, k.output.trans h.output, Nat.le_trans h.size k.size, fun i hi hF => by
    refine (k.same i (Nat.lt_of_lt_of_le hi h.size) fun hg => ?_).trans (h.same i hi hF)
    rcases hG i hg with h1 | h1
    · exact hF h1
    · omega⟩
theorem more (h : Keeps F a b) (hF : ∀ f, f ∈ F → f ∈ G ∨ a.heap.size ≤ f) : Keeps G a b :=
  ⟨h.os, h.tape, h.output, h.size, fun i hi hg => h.same i hi fun hf => by
    rcases hF i hf with h1 | h1
    · exact hg h1
    · omega⟩
theorem drew (h : Keeps F a b) : Keeps F a b.drew := ⟨h.os, h.tape, h.output, h.size, h.same⟩
theorem drewN (h : Keeps F a b) (n : Nat) : Keeps F a (b.drewN n) := ⟨h.os, h.tape, h.output, h.size, h.same⟩
theorem of_drew (h : Keeps F a.drew b) : Keeps F a b := ⟨h.os, h.tape, h.output, h.size, h.same⟩
theorem of_drewN {n : Nat} (h : Keeps F (a.drewN n) b) : Keeps F a b := ⟨h.os, h.tape, h.output, h.size, h.same⟩
theorem alloc (h : Keeps F a b) (o : Obj) : Keeps F a (b.alloc o) :=
  ⟨h.os, h.tape, h.output, Nat.le_trans h.size (by simp), fun i hi hF => (Below.heap_alloc b o i (Nat.lt_of_lt_of_le hi h.size)).trans (h.same i hi hF)⟩
theorem setCell (h : Keeps F a b) {p : Addr} (hp : p.block ∈ F ∨ a.heap.size ≤ p.block) (u : Value) : Keeps F a (b.setCell p u) :=
  ⟨h.os, h.tape, h.output, Nat.le_trans h.size (by simp [World.setCell]), fun i hi hF => by
    refine (Below.heap_setCell b p u i fun e => ?_).trans (h.same i hi hF)
    subst e
    rcases hp with h1 | h1
    · exact hF h1
    · omega⟩
theorem grown {row : Option Nat} (h : Keeps F a b) (hg : b.grownBy c row) (hr : ∀ k, row = some k → k ∈ F ∨ a.heap.size ≤ k) : Keeps F a c :=
  h.trans (G := row.toList) ⟨hg.os, hg.tape, hg.output, hg.size, fun i hi hF => hg.block i hi fun e => hF (by rw [← e]; simp)⟩ (fun g hm => hr g (by simpa using hm))
theorem below (h : Below a.heap.size a b) : Keeps F a b := ⟨h.os, h.tape, h.output, h.size, fun i hi _ => h.block i hi⟩
theorem below' {B : Nat} (h : Below B a b) (hB : a.heap.size ≤ B) : Keeps F a b := ⟨h.os, h.tape, h.output, h.size, fun i hi _ => h.block i (by omega)⟩
theorem to {B : Nat} (h : Keeps F a b) (hB : B ≤ a.heap.size) (hF : ∀ f, f ∈ F → B ≤ f) : Below B a b :=
  ⟨h.os, h.tape, h.output, h.size, fun i hi => h.same i (by omega) fun hf => by have := hF i hf; omega⟩
theorem nil (h : Keeps [] a b) : Below a.heap.size a b := h.to (Nat.le_refl _) (by simp)
/-- Blocks told one by one: what holds of one that was there holds behind the call. -/
theorem block {k : Nat} {o : Obj} (h : Keeps F a b) (hk : a.heap[k]? = some o) (hF : k ∉ F) : b.heap[k]? = some o :=
  (h.same k (lt_of_block hk) hF).trans hk
theorem row {base : Nat} {e : TypeId} {size : Nat} {v : Value} {n : Nat} {xs : List Value} (h : Keeps F a b) (ho : a.ownsRow base e size v n xs) (hF : ∀ k, v.ownBlock = some k → k ∉ F) : b.ownsRow base e size v n xs := by
  refine ⟨ho.1, ?_⟩
  rcases ho.2 with h0 | ⟨g, cap, cur, rfl, hb, hg, rest⟩
  · exact .inl h0
  · exact .inr ⟨g, cap, cur, rfl, hb, h.block hg (hF g rfl), rest⟩
end Keeps

/-- A block's cell; it may be written. -/
theorem blk_cell {w : World} {g : Nat} {t : TypeId} {cs : Array Value} (h : w.heap[g]? = some (.cells cs t (0, 0))) (i : Nat) : w.cell? ⟨g, i, none⟩ = cs[i]? := cell_of_row w g i cs t (0, 0) h
theorem blk_free {w : World} {g : Nat} {t : TypeId} {cs : Array Value} (h : w.heap[g]? = some (.cells cs t (0, 0))) (i : Nat) : w.frozen? ⟨g, i, none⟩ = false := by simp [World.frozen?, h]
theorem blk_set {w : World} {g : Nat} {t : TypeId} {cs : Array Value} (h : w.heap[g]? = some (.cells cs t (0, 0))) (i : Nat) (u : Value) : (w.setCell ⟨g, i, none⟩ u).heap[g]? = some (.cells (cs.setIfInBounds i u) t (0, 0)) := by
  simp [World.setCell, Array.getElem?_modify, h]
theorem blk_far {w : World} {g : Nat} {o : Obj} (h : w.heap[g]? = some o) {p : Addr} (hp : g ≠ p.block) (u : Value) : (w.setCell p u).heap[g]? = some o := (Below.heap_setCell w p u g hp).trans h
theorem blk_alloc {w : World} {g : Nat} {o : Obj} (h : w.heap[g]? = some o) (x : Obj) : (w.alloc x).heap[g]? = some o := (Below.heap_alloc w x g (lt_of_block h)).trans h
theorem blk_new (w : World) (x : Obj) : (w.alloc x).heap[w.heap.size]? = some x := heap_alloc_new w x
/-- Blocks of two element types are two blocks. -/
theorem blk_apart {w : World} {g g' : Nat} {t t' : TypeId} {cs cs' : Array Value} {f f' : Nat × Nat} (h : w.heap[g]? = some (.cells cs t f)) (h' : w.heap[g']? = some (.cells cs' t' f')) (ht : t ≠ t') : g ≠ g' := by
  rintro rfl
  have e : Obj.cells cs t f = .cells cs' t' f' := by rw [h] at h'; exact Option.some.inj h'
  injection e with _ e
  exact ht e
theorem row_apart {w : World} {base : Nat} {e t : TypeId} {size n g : Nat} {v : Value} {xs : List Value} {cs : Array Value} (h : w.ownsRow base e size v n xs) (hg : w.heap[g]? = some (.cells cs t (0, 0))) (ht : e ≠ t) : ∀ k, v.ownBlock = some k → k ≠ g := by
  intro k hk
  rcases h.2 with ⟨rfl, _⟩ | ⟨g', cap, cur, rfl, _, hh, _⟩
  · simp [Value.ownBlock] at hk
  · obtain rfl : g' = k := by simpa [Value.ownBlock] using hk
    exact blk_apart hh hg ht
theorem row_set {w : World} {base : Nat} {e : TypeId} {size : Nat} {v : Value} {n : Nat} {xs : List Value} (h : w.ownsRow base e size v n xs) {p : Addr} (hp : v.ownBlock ≠ some p.block) (u : Value) : (w.setCell p u).ownsRow base e size v n xs := ownsRow_setCell_other h hp u
/-- A row's value shows its length. -/
theorem row_slice {w : World} {base : Nat} {e : TypeId} {size : Nat} {v : Value} {n : Nat} {xs : List Value} (h : w.ownsRow base e size v n xs) : ∃ A cap, v = .slice A n cap := by
  rcases h.2 with ⟨rfl, rfl⟩ | ⟨g, cap, cur, rfl, _⟩
  · exact ⟨none, 0, rfl⟩
  · exact ⟨_, _, rfl⟩
/-- 'append(s, x...)' where s is a row of the call's own and x's cells are known, as a step of a region that draws its order: what comes of it shows its shape. -/
theorem step_app {P : Program} {w : World} {ops : Array Oper} {o : Oper} {a : Act} {K : Act → World → Prop} {Q : Exit → Act → World → Prop} {E : Prop} (hgd : o.guard = none) (s x : Operand) (t : TypeId)
    (ho : o.op = .call { callee := .builtin .append, args := #[s, x], argTypes := #[t, t] })
    (base : Nat) (e : TypeId) (i : TypeInfo) (z : Value) (size bytes : Nat) (ht : P.underlying t = some (.slice e)) (hi : P.info? e = some i) (hz : i.zero = some z)
    (hsize : i.size = size) (hby : i.bytes = bytes) (hzs : z.cells.size = size) (hsz : 0 < size)
    (v : Value) (n : Nat) (xs : List Value) (hs : a.eval s = v) (hown : w.ownsRow base e size v n xs)
    (ad : Addr) (m c : Nat) (news : List Value) (hx : a.eval x = .slice (some ad) m c) (hl : news.length = m * size) (hnews : ∀ j u, news[j]? = some u → w.cell? (ad.add j) = some u) (h1 : ∀ u ∈ news, u.oneCell' = true)
    (h63 : n + m ≤ maxLen) (hbytes : (n + m) * bytes ≤ 140737488355328) (hbase : base ≤ w.heap.size)
    (h : ∀ A cap w', w'.ownsRow base e size (.slice A (n + m) cap) (n + m) (xs ++ news) → w.grownBy w' v.ownBlock → (Value.ownBlock (.slice A (n + m) cap) = v.ownBlock ∨ Value.ownBlock (.slice A (n + m) cap) = some w.heap.size) → K (a.put o.dst (.slice A (n + m) cap)) w') :
    if Region.wanted o (yielded ops a.tmps) = true then Oper.wp P o a w K Q else E := by
  rw [if_pos (show Region.wanted o (yielded ops a.tmps) = true by simp [Region.wanted, hgd])]
  obtain ⟨v', w', hr, h2, h3, _, h5⟩ := run_append_own_at (P := P) w base t o.type e i z size bytes ht hi hz hsize hby hzs hsz v n xs hown ad m c news hl hnews h1 h63 hbytes hbase
  obtain ⟨A, cap, rfl⟩ := row_slice h2
  unfold Oper.wp execOp
  simp only [ho, resolve, invoke, builtin, Sem.run_bind, Sem.run_pure, Result.andThen_ok, List.map_toArray, List.map_cons, List.map_nil, hs, hx, hr]
  exact h A cap w' h2 h3 h5
end Go.Proofs.YtdbifbgjbfnfmaaDoor
/-
  The library functions' contracts, laid at this translation by the kit's own command. Nothing is assumed.
-/
namespace Go.Proofs
open Go.Shelf
def Tryd.lays169_ren : Go.Shelf.Ren := ⟨fun | 169 => 46 | n => n, fun | 70 => 77 | 9 => 9 | 0 => 0 | 72 => 80 | 37 => 78 | 127 => 113 | 3 => 3 | 5 => 5 | n => n, fun | n => n⟩
theorem Tryd.lays169 : Go.Proofs.Lays.n169 Tryd.prog Tryd.lays169_ren := {
  mixed := by kernel_rfl
  f169 := Tryd.func46.trans (congrArg some (by kernel_rfl))
  t0 := Tryd.underlying0
  a0 := Tryd.isAgg0
  z0 := Tryd.sizeOf0
  v0 := Tryd.zeroValue0
  t3 := Tryd.underlying3
  a3 := Tryd.isAgg3
  z3 := Tryd.sizeOf3
  v3 := Tryd.zeroValue3
  t9 := Tryd.underlying9
  a9 := Tryd.isAgg9
  z9 := Tryd.sizeOf9
  v9 := Tryd.zeroValue9
  t37 := Tryd.underlying78
  a37 := Tryd.isAgg78
  z37 := Tryd.sizeOf78
  v37 := Tryd.zeroValue78
  t70 := Tryd.underlying77
  a70 := Tryd.isAgg77
  z70 := Tryd.sizeOf77
  v70 := Tryd.zeroValue77
  t72 := Tryd.underlying80
  a72 := Tryd.isAgg80
  z72 := Tryd.sizeOf80
  v72 := Tryd.zeroValue80
  t127 := Tryd.underlying113
  a127 := Tryd.isAgg113
  z127 := Tryd.sizeOf113
  v127 := Tryd.zeroValue113 }
theorem Tryd.Builder_Extra_169 : Builder.Extra Tryd.prog Tryd.lays169_ren := {
  sizeBuilder := by kernel_rfl
  liesBuilder := by kernel_rfl
  t5 := Tryd.underlying5
  a5 := Tryd.isAgg5
  z5 := Tryd.sizeOf5
  v5 := Tryd.zeroValue5
  infoByte := by kernel_rfl
  cellsByte := by kernel_rfl
  sizeByte := by kernel_rfl
  neB5 := by decide }
open Go.RowKit in
theorem Tryd.Builder_String (B b : Nat) (l : List UInt8) (w : World) (h : Lib.IsBuilder 80 5 B b (Lib.byteCells l) w) (h0 : l ≠ []) :
    Calls Tryd.prog 46 #[.pointer (some ⟨b, 0, none⟩)] w fun e w' => e = .returned (.string ⟨l.toArray⟩) ∧ Below B w w' := Any.Builder_String Tryd.lays169 Tryd.Builder_Extra_169 B b l w h h0
open Go.RowKit in
theorem Tryd.Builder_String_empty (B b : Nat) (w : World) (h : Lib.IsBuilder 80 5 B b [] w) (hBw : B ≤ w.heap.size) :
    Calls Tryd.prog 46 #[.pointer (some ⟨b, 0, none⟩)] w fun e w' => e = .returned (.string ⟨#[]⟩) ∧ Below B w w' := Any.Builder_String_empty Tryd.lays169 Tryd.Builder_Extra_169 B b w h hBw
open Go.RowKit in
theorem Tryd.Builder_String_any (B b : Nat) (l : List UInt8) (w : World) (h : Lib.IsBuilder 80 5 B b (Lib.byteCells l) w) (hBw : B ≤ w.heap.size) :
    Calls Tryd.prog 46 #[.pointer (some ⟨b, 0, none⟩)] w fun e w' => e = .returned (.string ⟨l.toArray⟩) ∧ Below B w w' := Any.Builder_String_any Tryd.lays169 Tryd.Builder_Extra_169 B b l w h hBw
def Tryd.lays241_ren : Go.Shelf.Ren := ⟨fun | 241 => 115 | 277 => 126 | n => n, fun | 70 => 77 | 3 => 3 | 0 => 0 | 72 => 80 | 37 => 78 | 5 => 5 | n => n, fun | n => n⟩
theorem Tryd.lays241 : Go.Proofs.Lays.n241 Tryd.prog Tryd.lays241_ren := {
  mixed := by kernel_rfl
  f241 := Tryd.func115.trans (congrArg some (by kernel_rfl))
  f277 := Tryd.func126.trans (congrArg some (by kernel_rfl))
  t0 := Tryd.underlying0
  a0 := Tryd.isAgg0
  z0 := Tryd.sizeOf0
  v0 := Tryd.zeroValue0
  t3 := Tryd.underlying3
  a3 := Tryd.isAgg3
  z3 := Tryd.sizeOf3
  v3 := Tryd.zeroValue3
  t37 := Tryd.underlying78
  a37 := Tryd.isAgg78
  z37 := Tryd.sizeOf78
  v37 := Tryd.zeroValue78
  t70 := Tryd.underlying77
  a70 := Tryd.isAgg77
  z70 := Tryd.sizeOf77
  v70 := Tryd.zeroValue77
  t72 := Tryd.underlying80
  a72 := Tryd.isAgg80
  z72 := Tryd.sizeOf80
  v72 := Tryd.zeroValue80 }
theorem Tryd.Builder_Extra_241 : Builder.Extra Tryd.prog Tryd.lays241_ren := {
  sizeBuilder := by kernel_rfl
  liesBuilder := by kernel_rfl
  t5 := Tryd.underlying5
  a5 := Tryd.isAgg5
  z5 := Tryd.sizeOf5
  v5 := Tryd.zeroValue5
  infoByte := by kernel_rfl
  cellsByte := by kernel_rfl
  sizeByte := by kernel_rfl
  neB5 := by decide }
open Go.RowKit in
theorem Tryd.Builder_grow_fresh (B b n : Nat) (w : World) (hB : B ≤ b) (hbk : w.heap[b]? = some (.cells #[.pointer (some ⟨b, 0, none⟩), .slice none 0 0] 80 (0, 0))) (hBw : B ≤ w.heap.size) (hn : n ≤ 281474976710656) :
    Calls Tryd.prog 115 #[.pointer (some ⟨b, 0, none⟩), .int .i64 n] w fun e w' => e = .returned (.tuple #[]) ∧ (Lib.BuilderAt 80 5 B b (.pointer (some ⟨b, 0, none⟩)) [] w' ∧ Below B w w') := Any.Builder_grow_fresh Tryd.lays241 Tryd.Builder_Extra_241 B b n w hB hbk hBw hn
def Tryd.lays165_ren : Go.Shelf.Ren := ⟨fun | 165 => 101 | 240 => 69 | 241 => 115 | 276 => 99 | 277 => 126 | n => n, fun | 70 => 77 | 3 => 3 | 0 => 0 | 4 => 4 | 9 => 9 | 20 => 20 | 72 => 80 | 37 => 78 | 164 => 131 | 5 => 5 | n => n, fun | n => n⟩
theorem Tryd.lays165 : Go.Proofs.Lays.n165 Tryd.prog Tryd.lays165_ren := {
  mixed := by kernel_rfl
  f165 := Tryd.func101.trans (congrArg some (by kernel_rfl))
  f240 := Tryd.func69.trans (congrArg some (by kernel_rfl))
  f241 := Tryd.func115.trans (congrArg some (by kernel_rfl))
  f276 := Tryd.func99.trans (congrArg some (by kernel_rfl))
  f277 := Tryd.func126.trans (congrArg some (by kernel_rfl))
  t0 := Tryd.underlying0
  a0 := Tryd.isAgg0
  z0 := Tryd.sizeOf0
  v0 := Tryd.zeroValue0
  t3 := Tryd.underlying3
  a3 := Tryd.isAgg3
  z3 := Tryd.sizeOf3
  v3 := Tryd.zeroValue3
  t4 := Tryd.underlying4
  a4 := Tryd.isAgg4
  z4 := Tryd.sizeOf4
  v4 := Tryd.zeroValue4
  t9 := Tryd.underlying9
  a9 := Tryd.isAgg9
  z9 := Tryd.sizeOf9
  v9 := Tryd.zeroValue9
  t20 := Tryd.underlying20
  a20 := Tryd.isAgg20
  z20 := Tryd.sizeOf20
  v20 := Tryd.zeroValue20
  t37 := Tryd.underlying78
  a37 := Tryd.isAgg78
  z37 := Tryd.sizeOf78
  v37 := Tryd.zeroValue78
  t70 := Tryd.underlying77
  a70 := Tryd.isAgg77
  z70 := Tryd.sizeOf77
  v70 := Tryd.zeroValue77
  t72 := Tryd.underlying80
  a72 := Tryd.isAgg80
  z72 := Tryd.sizeOf80
  v72 := Tryd.zeroValue80
  t164 := Tryd.underlying131
  a164 := Tryd.isAgg131
  z164 := Tryd.sizeOf131
  v164 := Tryd.zeroValue131 }
theorem Tryd.Builder_Extra_165 : Builder.Extra Tryd.prog Tryd.lays165_ren := {
  sizeBuilder := by kernel_rfl
  liesBuilder := by kernel_rfl
  t5 := Tryd.underlying5
  a5 := Tryd.isAgg5
  z5 := Tryd.sizeOf5
  v5 := Tryd.zeroValue5
  infoByte := by kernel_rfl
  cellsByte := by kernel_rfl
  sizeByte := by kernel_rfl
  neB5 := by decide }
open Go.RowKit in
theorem Tryd.Builder_Grow_fresh (B b n : Nat) (w : World) (hB : B ≤ b) (hbk : w.heap[b]? = some (.cells #[.pointer none, .slice none 0 0] 80 (0, 0))) (hBw : B ≤ w.heap.size) (hn : n ≤ 281474976710656) :
    Calls Tryd.prog 101 #[.pointer (some ⟨b, 0, none⟩), .int .i64 n] w fun e w' => e = .returned (.tuple #[]) ∧ (Lib.BuilderAt 80 5 B b (.pointer (some ⟨b, 0, none⟩)) [] w' ∧ Below B w w') := Any.Builder_Grow_fresh Tryd.lays165 Tryd.Builder_Extra_165 B b n w hB hbk hBw hn
def Tryd.lays156_ren : Go.Shelf.Ren := ⟨fun | 156 => 72 | 165 => 101 | 166 => 42 | 169 => 46 | 240 => 69 | 241 => 115 | 276 => 99 | 277 => 126 | n => n, fun | 31 => 45 | 9 => 9 | 3 => 3 | 4 => 4 | 0 => 0 | 20 => 20 | 72 => 80 | 76 => 83 | 70 => 77 | 37 => 78 | 75 => 82 | 127 => 113 | 164 => 131 | 5 => 5 | 80 => 50 | n => n, fun | n => n⟩
theorem Tryd.lays156 : Go.Proofs.Lays.n156 Tryd.prog Tryd.lays156_ren := {
  mixed := by kernel_rfl
  f156 := Tryd.func72.trans (congrArg some (by kernel_rfl))
  f165 := Tryd.func101.trans (congrArg some (by kernel_rfl))
  f166 := Tryd.func42.trans (congrArg some (by kernel_rfl))
  f169 := Tryd.func46.trans (congrArg some (by kernel_rfl))
  f240 := Tryd.func69.trans (congrArg some (by kernel_rfl))
  f241 := Tryd.func115.trans (congrArg some (by kernel_rfl))
  f276 := Tryd.func99.trans (congrArg some (by kernel_rfl))
  f277 := Tryd.func126.trans (congrArg some (by kernel_rfl))
  t0 := Tryd.underlying0
  a0 := Tryd.isAgg0
  z0 := Tryd.sizeOf0
  v0 := Tryd.zeroValue0
  t3 := Tryd.underlying3
  a3 := Tryd.isAgg3
  z3 := Tryd.sizeOf3
  v3 := Tryd.zeroValue3
  t4 := Tryd.underlying4
  a4 := Tryd.isAgg4
  z4 := Tryd.sizeOf4
  v4 := Tryd.zeroValue4
  t9 := Tryd.underlying9
  a9 := Tryd.isAgg9
  z9 := Tryd.sizeOf9
  v9 := Tryd.zeroValue9
  t20 := Tryd.underlying20
  a20 := Tryd.isAgg20
  z20 := Tryd.sizeOf20
  v20 := Tryd.zeroValue20
  t31 := Tryd.underlying45
  a31 := Tryd.isAgg45
  z31 := Tryd.sizeOf45
  v31 := Tryd.zeroValue45
  t37 := Tryd.underlying78
  a37 := Tryd.isAgg78
  z37 := Tryd.sizeOf78
  v37 := Tryd.zeroValue78
  t70 := Tryd.underlying77
  a70 := Tryd.isAgg77
  z70 := Tryd.sizeOf77
  v70 := Tryd.zeroValue77
  t72 := Tryd.underlying80
  a72 := Tryd.isAgg80
  z72 := Tryd.sizeOf80
  v72 := Tryd.zeroValue80
  t75 := Tryd.underlying82
  a75 := Tryd.isAgg82
  z75 := Tryd.sizeOf82
  v75 := Tryd.zeroValue82
  t76 := Tryd.underlying83
  a76 := Tryd.isAgg83
  z76 := Tryd.sizeOf83
  v76 := Tryd.zeroValue83
  t127 := Tryd.underlying113
  a127 := Tryd.isAgg113
  z127 := Tryd.sizeOf113
  v127 := Tryd.zeroValue113
  t164 := Tryd.underlying131
  a164 := Tryd.isAgg131
  z164 := Tryd.sizeOf131
  v164 := Tryd.zeroValue131 }
theorem Tryd.Builder_Extra_156 : Builder.Extra Tryd.prog Tryd.lays156_ren := {
  sizeBuilder := by kernel_rfl
  liesBuilder := by kernel_rfl
  t5 := Tryd.underlying5
  a5 := Tryd.isAgg5
  z5 := Tryd.sizeOf5
  v5 := Tryd.zeroValue5
  infoByte := by kernel_rfl
  cellsByte := by kernel_rfl
  sizeByte := by kernel_rfl
  neB5 := by decide }
open Go.RowKit in
theorem Tryd.strings_Join_none (a : Option Addr) (c : Nat) (sep : ByteArray) (w : World) :
    Calls Tryd.prog 72 #[.slice a 0 c, .string sep] w fun e w' => e = .returned (.string ⟨#[]⟩) ∧ w' = w := Any.strings_Join_none Tryd.lays156 Tryd.Builder_Extra_156 a c sep w
open Go.RowKit in
theorem Tryd.strings_Join (bk o c : Nat) (xs : List ByteArray) (sep : ByteArray) (w : World) (hcells : ∀ (j : Nat) x, xs[j]? = some x → w.cell? ⟨bk, o + j, none⟩ = some (.string x)) (hbk : bk < w.heap.size) (hN : xs.length ≤ 140737488355328) (hcap : xs.length ≤ c) (hlen : (Lib.join (xs.map (·.data.toList)) sep.data.toList).length ≤ 140737488355328) :
    Calls Tryd.prog 72 #[.slice (some ⟨bk, o, none⟩) xs.length c, .string sep] w fun e w' => e = .returned (.string ⟨(Lib.join (xs.map (·.data.toList)) sep.data.toList).toArray⟩) ∧ Below w.heap.size w w' := Any.strings_Join Tryd.lays156 Tryd.Builder_Extra_156 bk o c xs sep w hcells hbk hN hcap hlen
def Tryd.lays118_ren : Go.Shelf.Ren := ⟨fun | 118 => 124 | n => n, fun | 21 => 21 | 3 => 3 | 4 => 4 | n => n, fun | n => n⟩
theorem Tryd.lays118 : Go.Proofs.Lays.n118 Tryd.prog Tryd.lays118_ren := {
  mixed := by kernel_rfl
  f118 := Tryd.func124.trans (congrArg some (by kernel_rfl))
  t3 := Tryd.underlying3
  a3 := Tryd.isAgg3
  z3 := Tryd.sizeOf3
  v3 := Tryd.zeroValue3
  t4 := Tryd.underlying4
  a4 := Tryd.isAgg4
  z4 := Tryd.sizeOf4
  v4 := Tryd.zeroValue4
  t21 := Tryd.underlying21
  a21 := Tryd.isAgg21
  z21 := Tryd.sizeOf21
  v21 := Tryd.zeroValue21 }
theorem Tryd.utf8_RuneLen (r : Int) (w : World) :
    Calls Tryd.prog 124 #[.int .i32 r] w fun e w' => e = .returned (.int .i64 (Lib.runeLen r)) ∧ w' = w := Any.utf8_RuneLen Tryd.lays118 r w
def Tryd.lays213_ren : Go.Shelf.Ren := ⟨fun | 213 => 106 | 265 => 122 | n => n, fun | 9 => 9 | 3 => 3 | n => n, fun | n => n⟩
theorem Tryd.lays213 : Go.Proofs.Lays.n213 Tryd.prog Tryd.lays213_ren := {
  mixed := by kernel_rfl
  f213 := Tryd.func106.trans (congrArg some (by kernel_rfl))
  f265 := Tryd.func122.trans (congrArg some (by kernel_rfl))
  t3 := Tryd.underlying3
  a3 := Tryd.isAgg3
  z3 := Tryd.sizeOf3
  v3 := Tryd.zeroValue3
  t9 := Tryd.underlying9
  a9 := Tryd.isAgg9
  z9 := Tryd.sizeOf9
  v9 := Tryd.zeroValue9 }
open Go.RowKit in
theorem Tryd.bytealg_CompareString (a b : ByteArray) (w : World) :
    Calls Tryd.prog 106 #[.string a, .string b] w fun e w' => e = .returned (.int .i64 (Lib.compareBytes a.data.toList b.data.toList)) ∧ w' = w := Any.bytealg_CompareString Tryd.lays213 a b w
def Tryd.lays106_ren : Go.Shelf.Ren := ⟨fun | 106 => 81 | 213 => 106 | 265 => 122 | n => n, fun | 9 => 9 | 3 => 3 | n => n, fun | n => n⟩
theorem Tryd.lays106 : Go.Proofs.Lays.n106 Tryd.prog Tryd.lays106_ren := {
  mixed := by kernel_rfl
  f106 := Tryd.func81.trans (congrArg some (by kernel_rfl))
  f213 := Tryd.func106.trans (congrArg some (by kernel_rfl))
  f265 := Tryd.func122.trans (congrArg some (by kernel_rfl))
  t3 := Tryd.underlying3
  a3 := Tryd.isAgg3
  z3 := Tryd.sizeOf3
  v3 := Tryd.zeroValue3
  t9 := Tryd.underlying9
  a9 := Tryd.isAgg9
  z9 := Tryd.sizeOf9
  v9 := Tryd.zeroValue9 }
open Go.RowKit in
theorem Tryd.strings_Compare (a b : ByteArray) (w : World) :
    Calls Tryd.prog 81 #[.string a, .string b] w fun e w' => e = .returned (.int .i64 (Lib.compareBytes a.data.toList b.data.toList)) ∧ w' = w := Any.strings_Compare Tryd.lays106 a b w
def Tryd.lays215_ren : Go.Shelf.Ren := ⟨fun | 215 => 125 | n => n, fun | 3 => 3 | 4 => 4 | n => n, fun | n => n⟩
theorem Tryd.lays215 : Go.Proofs.Lays.n215 Tryd.prog Tryd.lays215_ren := {
  mixed := by kernel_rfl
  f215 := Tryd.func125.trans (congrArg some (by kernel_rfl))
  t3 := Tryd.underlying3
  a3 := Tryd.isAgg3
  z3 := Tryd.sizeOf3
  v3 := Tryd.zeroValue3
  t4 := Tryd.underlying4
  a4 := Tryd.isAgg4
  z4 := Tryd.sizeOf4
  v4 := Tryd.zeroValue4 }
open Go.RowKit in
theorem Tryd.cmp_isNaN_int (x : Int) (w : World) :
    Calls Tryd.prog 125 #[.int .i64 x] w fun e w' => e = .returned (.bool false) ∧ w' = w := Any.cmp_isNaN_int Tryd.lays215 x w
def Tryd.lays122_ren : Go.Shelf.Ren := ⟨fun | 122 => 110 | 215 => 125 | n => n, fun | 3 => 3 | 4 => 4 | n => n, fun | n => n⟩
theorem Tryd.lays122 : Go.Proofs.Lays.n122 Tryd.prog Tryd.lays122_ren := {
  mixed := by kernel_rfl
  f122 := Tryd.func110.trans (congrArg some (by kernel_rfl))
  f215 := Tryd.func125.trans (congrArg some (by kernel_rfl))
  t3 := Tryd.underlying3
  a3 := Tryd.isAgg3
  z3 := Tryd.sizeOf3
  v3 := Tryd.zeroValue3
  t4 := Tryd.underlying4
  a4 := Tryd.isAgg4
  z4 := Tryd.sizeOf4
  v4 := Tryd.zeroValue4 }
open Go.RowKit in
theorem Tryd.cmp_Compare_int (x y : Int) (w : World) :
    Calls Tryd.prog 110 #[.int .i64 x, .int .i64 y] w fun e w' => e = .returned (.int .i64 (Lib.compareInt x y)) ∧ w' = w := Any.cmp_Compare_int Tryd.lays122 x y w
open Go.RowKit in
theorem Tryd.Builder_String_f (B b : Nat) (l : List UInt8) (w : World) (h : Lib.IsBuilderF 80 5 B b (Lib.byteCells l) w) (h0 : l ≠ []) :
    Calls Tryd.prog 46 #[.pointer (some ⟨b, 0, none⟩)] w fun e w' => e = .returned (.string ⟨l.toArray⟩) ∧ (Lib.IsBuilderF 80 5 B b (Lib.byteCells l) w' ∧ Below B w w') := Any.Builder_String_f Tryd.lays169 Tryd.Builder_Extra_169 B b l w h h0
open Go.RowKit in
theorem Tryd.Builder_String_empty_f (B b : Nat) (w : World) (h : Lib.IsBuilderF 80 5 B b [] w) (hBw : B ≤ w.heap.size) :
    Calls Tryd.prog 46 #[.pointer (some ⟨b, 0, none⟩)] w fun e w' => e = .returned (.string ⟨#[]⟩) ∧ (Lib.IsBuilderF 80 5 B b [] w' ∧ Below B w w') := Any.Builder_String_empty_f Tryd.lays169 Tryd.Builder_Extra_169 B b w h hBw
open Go.RowKit in
theorem Tryd.Builder_String_any_f (B b : Nat) (l : List UInt8) (w : World) (h : Lib.IsBuilderF 80 5 B b (Lib.byteCells l) w) (hBw : B ≤ w.heap.size) :
    Calls Tryd.prog 46 #[.pointer (some ⟨b, 0, none⟩)] w fun e w' => e = .returned (.string ⟨l.toArray⟩) ∧ (Lib.IsBuilderF 80 5 B b (Lib.byteCells l) w' ∧ Below B w w') := Any.Builder_String_any_f Tryd.lays169 Tryd.Builder_Extra_169 B b l w h hBw
open Go.RowKit in
theorem Tryd.Builder_String_k (B b : Nat) (l : List UInt8) (w : World) (h : Lib.IsBuilderF 80 5 B b (Lib.byteCells l) w) (h0 : l ≠ []) :
    Calls Tryd.prog 46 #[.pointer (some ⟨b, 0, none⟩)] w fun e w' => e = .returned (.string ⟨l.toArray⟩) ∧ (Lib.IsBuilderF 80 5 B b (Lib.byteCells l) w' ∧ Below B w w' ∧ Lib.OthersKept 5 (some b) w w') := Any.Builder_String_k Tryd.lays169 Tryd.Builder_Extra_169 B b l w h h0
open Go.RowKit in
theorem Tryd.Builder_String_empty_k (B b : Nat) (w : World) (h : Lib.IsBuilderF 80 5 B b [] w) (hBw : B ≤ w.heap.size) :
    Calls Tryd.prog 46 #[.pointer (some ⟨b, 0, none⟩)] w fun e w' => e = .returned (.string ⟨#[]⟩) ∧ (Lib.IsBuilderF 80 5 B b [] w' ∧ Below B w w' ∧ Lib.OthersKept 5 (some b) w w') := Any.Builder_String_empty_k Tryd.lays169 Tryd.Builder_Extra_169 B b w h hBw
open Go.RowKit in
theorem Tryd.Builder_String_any_k (B b : Nat) (l : List UInt8) (w : World) (h : Lib.IsBuilderF 80 5 B b (Lib.byteCells l) w) (hBw : B ≤ w.heap.size) :
    Calls Tryd.prog 46 #[.pointer (some ⟨b, 0, none⟩)] w fun e w' => e = .returned (.string ⟨l.toArray⟩) ∧ (Lib.IsBuilderF 80 5 B b (Lib.byteCells l) w' ∧ Below B w w' ∧ Lib.OthersKept 5 (some b) w w') := Any.Builder_String_any_k Tryd.lays169 Tryd.Builder_Extra_169 B b l w h hBw
open Go.RowKit in
theorem Tryd.Builder_grow_fresh_cap (B b n : Nat) (w : World) (hB : B ≤ b) (hbk : w.heap[b]? = some (.cells #[.pointer (some ⟨b, 0, none⟩), .slice none 0 0] 80 (0, 0))) (hBw : B ≤ w.heap.size) (hn : n ≤ 281474976710656) :
    Calls Tryd.prog 115 #[.pointer (some ⟨b, 0, none⟩), .int .i64 n] w fun e w' => e = .returned (.tuple #[]) ∧ (Lib.BuilderAt 80 5 B b (.pointer (some ⟨b, 0, none⟩)) [] w' ∧ Below B w w') ∧ ∃ p cap, w'.cell? ⟨b, 1, none⟩ = some (.slice p 0 cap) ∧ n ≤ cap := Any.Builder_grow_fresh_cap Tryd.lays241 Tryd.Builder_Extra_241 B b n w hB hbk hBw hn
open Go.RowKit in
theorem Tryd.Builder_Grow_fresh_cap (B b n : Nat) (w : World) (hB : B ≤ b) (hbk : w.heap[b]? = some (.cells #[.pointer none, .slice none 0 0] 80 (0, 0))) (hBw : B ≤ w.heap.size) (hn : n ≤ 281474976710656) :
    Calls Tryd.prog 101 #[.pointer (some ⟨b, 0, none⟩), .int .i64 n] w fun e w' => e = .returned (.tuple #[]) ∧ (Lib.BuilderAt 80 5 B b (.pointer (some ⟨b, 0, none⟩)) [] w' ∧ Below B w w') ∧ ∃ p cap, w'.cell? ⟨b, 1, none⟩ = some (.slice p 0 cap) ∧ n ≤ cap := Any.Builder_Grow_fresh_cap Tryd.lays165 Tryd.Builder_Extra_165 B b n w hB hbk hBw hn
def Tryd.lays129_ren : Go.Shelf.Ren := ⟨fun | 129 => 100 | n => n, fun | 53 => 86 | 3 => 3 | 4 => 4 | 46 => 141 | 5 => 5 | 9 => 9 | n => n, fun | n => n⟩
theorem Tryd.lays129 : Go.Proofs.Lays.n129 Tryd.prog Tryd.lays129_ren := {
  mixed := by kernel_rfl
  f129 := Tryd.func100.trans (congrArg some (by kernel_rfl))
  t3 := Tryd.underlying3
  a3 := Tryd.isAgg3
  z3 := Tryd.sizeOf3
  v3 := Tryd.zeroValue3
  t4 := Tryd.underlying4
  a4 := Tryd.isAgg4
  z4 := Tryd.sizeOf4
  v4 := Tryd.zeroValue4
  t5 := Tryd.underlying5
  a5 := Tryd.isAgg5
  z5 := Tryd.sizeOf5
  v5 := Tryd.zeroValue5
  t9 := Tryd.underlying9
  a9 := Tryd.isAgg9
  z9 := Tryd.sizeOf9
  v9 := Tryd.zeroValue9
  t46 := Tryd.underlying141
  a46 := Tryd.isAgg141
  z46 := Tryd.sizeOf141
  v46 := Tryd.zeroValue141
  t53 := Tryd.underlying86
  a53 := Tryd.isAgg86
  z53 := Tryd.sizeOf86
  v53 := Tryd.zeroValue86 }
theorem Tryd.bits_Len64 (x : Int) (w : World) (h0 : 0 ≤ x) (h1 : x ≤ 18446744073709551615) :
    Calls Tryd.prog 100 #[.int .u64 x] w fun e w' => e = .returned (.int .i64 (Lib.bitLen x.toNat)) ∧ w' = w := Any.bits_Len64 Tryd.lays129 x w h0 h1
def Tryd.laysM316_ren : Go.Shelf.Ren := ⟨fun | 316 => 104 | n => n, fun | 9 => 9 | 3 => 3 | 4 => 4 | 37 => 78 | 0 => 0 | 127 => 113 | 5 => 5 | n => n, fun | n => n⟩
theorem Tryd.laysM316 : Go.Proofs.LaysM.n316 Tryd.prog Tryd.laysM316_ren := {
  mixed := by kernel_rfl
  f316 := Tryd.func104.trans (congrArg some (by kernel_rfl))
  t0 := Tryd.underlying0
  a0 := Tryd.isAgg0
  z0 := Tryd.sizeOf0
  v0 := Tryd.zeroValue0
  t3 := Tryd.underlying3
  a3 := Tryd.isAgg3
  z3 := Tryd.sizeOf3
  v3 := Tryd.zeroValue3
  t4 := Tryd.underlying4
  a4 := Tryd.isAgg4
  z4 := Tryd.sizeOf4
  v4 := Tryd.zeroValue4
  t9 := Tryd.underlying9
  a9 := Tryd.isAgg9
  z9 := Tryd.sizeOf9
  v9 := Tryd.zeroValue9
  t37 := Tryd.underlying78
  a37 := Tryd.isAgg78
  z37 := Tryd.sizeOf78
  v37 := Tryd.zeroValue78
  t127 := Tryd.underlying113
  a127 := Tryd.isAgg113
  z127 := Tryd.sizeOf113
  v127 := Tryd.zeroValue113
  t5 := Tryd.underlying5
  a5 := Tryd.isAgg5
  z5 := Tryd.sizeOf5
  v5 := Tryd.zeroValue5
  i0 := by kernel_rfl
  i3 := by kernel_rfl
  i4 := by kernel_rfl
  i5 := by kernel_rfl
  i9 := by kernel_rfl
  i37 := by kernel_rfl
  i127 := by kernel_rfl }
open Go.RowKit in
theorem Tryd.stringslite_Clone (s : ByteArray) (w : World) (hlim : s.size ≤ 281474976710656) :
    Calls Tryd.prog 104 #[.string s] w fun e w' => e = .returned (.string s) ∧ Below w.heap.size w w' := Any.stringslite_Clone Tryd.laysM316 s w hlim
def Tryd.lays217_ren : Go.Shelf.Ren := ⟨fun | 217 => 136 | 266 => 140 | n => n, fun | 9 => 9 | 5 => 5 | 3 => 3 | n => n, fun | n => n⟩
theorem Tryd.lays217 : Go.Proofs.Lays.n217 Tryd.prog Tryd.lays217_ren := {
  mixed := by kernel_rfl
  f217 := Tryd.func136.trans (congrArg some (by kernel_rfl))
  f266 := Tryd.func140.trans (congrArg some (by kernel_rfl))
  t3 := Tryd.underlying3
  a3 := Tryd.isAgg3
  z3 := Tryd.sizeOf3
  v3 := Tryd.zeroValue3
  t5 := Tryd.underlying5
  a5 := Tryd.isAgg5
  z5 := Tryd.sizeOf5
  v5 := Tryd.zeroValue5
  t9 := Tryd.underlying9
  a9 := Tryd.isAgg9
  z9 := Tryd.sizeOf9
  v9 := Tryd.zeroValue9 }
open Go.RowKit Go.Lib in
theorem Tryd.stringslite_IndexByte (s : ByteArray) (c : Int) (w : World) :
    Calls Tryd.prog 136 #[.string s, .int .u8 c] w fun e w' => e = .returned (.int .i64 (Lib.indexByte s.data.toList c.toNat.toUInt8)) ∧ w' = w := Any.stringslite_IndexByte Tryd.lays217 s c w
def Tryd.lays224_ren : Go.Shelf.Ren := ⟨fun | 224 => 138 | n => n, fun | 3 => 3 | n => n, fun | n => n⟩
theorem Tryd.lays224 : Go.Proofs.Lays.n224 Tryd.prog Tryd.lays224_ren := {
  mixed := by kernel_rfl
  f224 := Tryd.func138.trans (congrArg some (by kernel_rfl))
  t3 := Tryd.underlying3
  a3 := Tryd.isAgg3
  z3 := Tryd.sizeOf3
  v3 := Tryd.zeroValue3 }
open Go.RowKit Go.Lib in
theorem Tryd.bytealg_Cutover (n : Int) (h0 : 0 ≤ n) (h1 : n < 4611686018427387904) (w : World) :
    Calls Tryd.prog 138 #[.int .i64 n] w fun e w' => e = .returned (.int .i64 ((n + 16) / 8)) ∧ w' = w := Any.bytealg_Cutover Tryd.lays224 n h0 h1 w
def Tryd.lays314_ren : Go.Shelf.Ren := ⟨fun | 314 => 141 | n => n, fun | 9 => 9 | 51 => 160 | 3 => 3 | 4 => 4 | 5 => 5 | 46 => 141 | n => n, fun | n => n⟩
theorem Tryd.lays314 : Go.Proofs.Lays.n314 Tryd.prog Tryd.lays314_ren := {
  mixed := by kernel_rfl
  f314 := Tryd.func141.trans (congrArg some (by kernel_rfl))
  t3 := Tryd.underlying3
  a3 := Tryd.isAgg3
  z3 := Tryd.sizeOf3
  v3 := Tryd.zeroValue3
  t4 := Tryd.underlying4
  a4 := Tryd.isAgg4
  z4 := Tryd.sizeOf4
  v4 := Tryd.zeroValue4
  t5 := Tryd.underlying5
  a5 := Tryd.isAgg5
  z5 := Tryd.sizeOf5
  v5 := Tryd.zeroValue5
  t9 := Tryd.underlying9
  a9 := Tryd.isAgg9
  z9 := Tryd.sizeOf9
  v9 := Tryd.zeroValue9
  t46 := Tryd.underlying141
  a46 := Tryd.isAgg141
  z46 := Tryd.sizeOf141
  v46 := Tryd.zeroValue141
  t51 := Tryd.underlying160
  a51 := Tryd.isAgg160
  z51 := Tryd.sizeOf160
  v51 := Tryd.zeroValue160 }
open Go.RowKit Go.Lib in
theorem Tryd.bytealg_hashStr (sep : ByteArray) (hs : sep.size < 4294967281) (w : World) :
    Calls Tryd.prog 141 #[.string sep] w fun e w' => e = .returned (.tuple #[.int .u32 (RK.H sep.data.toList % 4294967296), .int .u32 (16777619 ^ sep.size % 4294967296)]) ∧ w' = w := Any.bytealg_hashStr Tryd.lays314 sep hs w
def Tryd.lays267_ren : Go.Shelf.Ren := ⟨fun | 267 => 139 | 314 => 141 | n => n, fun | 9 => 9 | 3 => 3 | 146 => 161 | 51 => 160 | 4 => 4 | 5 => 5 | 46 => 141 | n => n, fun | n => n⟩
theorem Tryd.lays267 : Go.Proofs.Lays.n267 Tryd.prog Tryd.lays267_ren := {
  mixed := by kernel_rfl
  f267 := Tryd.func139.trans (congrArg some (by kernel_rfl))
  f314 := Tryd.func141.trans (congrArg some (by kernel_rfl))
  t3 := Tryd.underlying3
  a3 := Tryd.isAgg3
  z3 := Tryd.sizeOf3
  v3 := Tryd.zeroValue3
  t4 := Tryd.underlying4
  a4 := Tryd.isAgg4
  z4 := Tryd.sizeOf4
  v4 := Tryd.zeroValue4
  t5 := Tryd.underlying5
  a5 := Tryd.isAgg5
  z5 := Tryd.sizeOf5
  v5 := Tryd.zeroValue5
  t9 := Tryd.underlying9
  a9 := Tryd.isAgg9
  z9 := Tryd.sizeOf9
  v9 := Tryd.zeroValue9
  t46 := Tryd.underlying141
  a46 := Tryd.isAgg141
  z46 := Tryd.sizeOf141
  v46 := Tryd.zeroValue141
  t51 := Tryd.underlying160
  a51 := Tryd.isAgg160
  z51 := Tryd.sizeOf160
  v51 := Tryd.zeroValue160
  t146 := Tryd.underlying161
  a146 := Tryd.isAgg161
  z146 := Tryd.sizeOf161
  v146 := Tryd.zeroValue161 }
open Go.RowKit Go.Lib in
theorem Tryd.bytealg_IndexRabinKarp (s sep : ByteArray) (h1 : 1 ≤ sep.size) (h2 : sep.size ≤ s.size) (hs : s.size < 4294967281) (w : World) :
    Calls Tryd.prog 139 #[.string s, .string sep] w fun e w' => e = .returned (.int .i64 (Lib.index s.data.toList sep.data.toList)) ∧ w' = w := Any.bytealg_IndexRabinKarp Tryd.lays267 s sep h1 h2 hs w
def Tryd.lays219_ren : Go.Shelf.Ren := ⟨fun | 219 => 134 | 217 => 136 | 225 => 137 | 224 => 138 | 267 => 139 | 266 => 140 | 314 => 141 | n => n, fun | 9 => 9 | 3 => 3 | 4 => 4 | 5 => 5 | 46 => 141 | 146 => 161 | 51 => 160 | n => n, fun | 1 => 0 | n => n⟩
theorem Tryd.lays219 : Go.Proofs.Lays.n219 Tryd.prog Tryd.lays219_ren := {
  mixed := by kernel_rfl
  f217 := Tryd.func136.trans (congrArg some (by kernel_rfl))
  f219 := Tryd.func134.trans (congrArg some (by kernel_rfl))
  f224 := Tryd.func138.trans (congrArg some (by kernel_rfl))
  f225 := Tryd.func137.trans (congrArg some (by kernel_rfl))
  f266 := Tryd.func140.trans (congrArg some (by kernel_rfl))
  f267 := Tryd.func139.trans (congrArg some (by kernel_rfl))
  f314 := Tryd.func141.trans (congrArg some (by kernel_rfl))
  t3 := Tryd.underlying3
  a3 := Tryd.isAgg3
  z3 := Tryd.sizeOf3
  v3 := Tryd.zeroValue3
  t4 := Tryd.underlying4
  a4 := Tryd.isAgg4
  z4 := Tryd.sizeOf4
  v4 := Tryd.zeroValue4
  t5 := Tryd.underlying5
  a5 := Tryd.isAgg5
  z5 := Tryd.sizeOf5
  v5 := Tryd.zeroValue5
  t9 := Tryd.underlying9
  a9 := Tryd.isAgg9
  z9 := Tryd.sizeOf9
  v9 := Tryd.zeroValue9
  t46 := Tryd.underlying141
  a46 := Tryd.isAgg141
  z46 := Tryd.sizeOf141
  v46 := Tryd.zeroValue141
  t51 := Tryd.underlying160
  a51 := Tryd.isAgg160
  z51 := Tryd.sizeOf160
  v51 := Tryd.zeroValue160
  t146 := Tryd.underlying161
  a146 := Tryd.isAgg161
  z146 := Tryd.sizeOf161
  v146 := Tryd.zeroValue161
  g1 := by kernel_rfl }
open Go.RowKit Go.Lib in
theorem Tryd.stringslite_Index_one (s : ByteArray) (c : UInt8) (w : World) :
    Calls Tryd.prog 134 #[.string s, .string ⟨#[c]⟩] w fun e w' => e = .returned (.int .i64 (Lib.indexByte s.data.toList c)) ∧ w' = w := Any.stringslite_Index_one Tryd.lays219 s c w
open Go.RowKit Go.Lib in
theorem Tryd.stringslite_Index (s sub : ByteArray) (m : Int) (w : World) (hs : s.size < 4294967281) (hm : w.cell? ⟨0, 0, none⟩ = some (.int .i64 m)) :
    Calls Tryd.prog 134 #[.string s, .string sub] w fun e w' => e = .returned (.int .i64 (Lib.index s.data.toList sub.data.toList)) ∧ w' = w := Any.stringslite_Index Tryd.lays219 s sub m w hs hm
def Tryd.lays220_ren : Go.Shelf.Ren := ⟨fun | 220 => 129 | 219 => 134 | 217 => 136 | 225 => 137 | 224 => 138 | 267 => 139 | 266 => 140 | 314 => 141 | n => n, fun | 9 => 9 | 4 => 4 | 3 => 3 | 5 => 5 | 46 => 141 | 146 => 161 | 51 => 160 | n => n, fun | 1 => 0 | n => n⟩
theorem Tryd.lays220 : Go.Proofs.Lays.n220 Tryd.prog Tryd.lays220_ren := {
  mixed := by kernel_rfl
  f217 := Tryd.func136.trans (congrArg some (by kernel_rfl))
  f219 := Tryd.func134.trans (congrArg some (by kernel_rfl))
  f220 := Tryd.func129.trans (congrArg some (by kernel_rfl))
  f224 := Tryd.func138.trans (congrArg some (by kernel_rfl))
  f225 := Tryd.func137.trans (congrArg some (by kernel_rfl))
  f266 := Tryd.func140.trans (congrArg some (by kernel_rfl))
  f267 := Tryd.func139.trans (congrArg some (by kernel_rfl))
  f314 := Tryd.func141.trans (congrArg some (by kernel_rfl))
  t3 := Tryd.underlying3
  a3 := Tryd.isAgg3
  z3 := Tryd.sizeOf3
  v3 := Tryd.zeroValue3
  t4 := Tryd.underlying4
  a4 := Tryd.isAgg4
  z4 := Tryd.sizeOf4
  v4 := Tryd.zeroValue4
  t5 := Tryd.underlying5
  a5 := Tryd.isAgg5
  z5 := Tryd.sizeOf5
  v5 := Tryd.zeroValue5
  t9 := Tryd.underlying9
  a9 := Tryd.isAgg9
  z9 := Tryd.sizeOf9
  v9 := Tryd.zeroValue9
  t46 := Tryd.underlying141
  a46 := Tryd.isAgg141
  z46 := Tryd.sizeOf141
  v46 := Tryd.zeroValue141
  t51 := Tryd.underlying160
  a51 := Tryd.isAgg160
  z51 := Tryd.sizeOf160
  v51 := Tryd.zeroValue160
  t146 := Tryd.underlying161
  a146 := Tryd.isAgg161
  z146 := Tryd.sizeOf161
  v146 := Tryd.zeroValue161
  g1 := by kernel_rfl }
open Go.RowKit Go.Lib in
theorem Tryd.stringslite_Cut (s sep : ByteArray) (m : Int) (w : World) (hs : s.size < 4294967281) (hm : w.cell? ⟨0, 0, none⟩ = some (.int .i64 m)) :
    Calls Tryd.prog 129 #[.string s, .string sep] w fun e w' => e = .returned (.tuple #[.string ⟨(Lib.cut s.data.toList sep.data.toList).1.toArray⟩, .string ⟨(Lib.cut s.data.toList sep.data.toList).2.1.toArray⟩, .bool (Lib.cut s.data.toList sep.data.toList).2.2]) ∧ ∃ n, w' = w.drewN n := Any.stringslite_Cut Tryd.lays220 s sep m w hs hm
def Tryd.lays145_ren : Go.Shelf.Ren := ⟨fun | 145 => 118 | 220 => 129 | 219 => 134 | 217 => 136 | 225 => 137 | 224 => 138 | 267 => 139 | 266 => 140 | 314 => 141 | n => n, fun | 9 => 9 | 4 => 4 | 59 => 143 | 3 => 3 | 5 => 5 | 46 => 141 | 146 => 161 | 51 => 160 | n => n, fun | 1 => 0 | n => n⟩
theorem Tryd.lays145 : Go.Proofs.Lays.n145 Tryd.prog Tryd.lays145_ren := {
  mixed := by kernel_rfl
  f145 := Tryd.func118.trans (congrArg some (by kernel_rfl))
  f217 := Tryd.func136.trans (congrArg some (by kernel_rfl))
  f219 := Tryd.func134.trans (congrArg some (by kernel_rfl))
  f220 := Tryd.func129.trans (congrArg some (by kernel_rfl))
  f224 := Tryd.func138.trans (congrArg some (by kernel_rfl))
  f225 := Tryd.func137.trans (congrArg some (by kernel_rfl))
  f266 := Tryd.func140.trans (congrArg some (by kernel_rfl))
  f267 := Tryd.func139.trans (congrArg some (by kernel_rfl))
  f314 := Tryd.func141.trans (congrArg some (by kernel_rfl))
  t3 := Tryd.underlying3
  a3 := Tryd.isAgg3
  z3 := Tryd.sizeOf3
  v3 := Tryd.zeroValue3
  t4 := Tryd.underlying4
  a4 := Tryd.isAgg4
  z4 := Tryd.sizeOf4
  v4 := Tryd.zeroValue4
  t5 := Tryd.underlying5
  a5 := Tryd.isAgg5
  z5 := Tryd.sizeOf5
  v5 := Tryd.zeroValue5
  t9 := Tryd.underlying9
  a9 := Tryd.isAgg9
  z9 := Tryd.sizeOf9
  v9 := Tryd.zeroValue9
  t46 := Tryd.underlying141
  a46 := Tryd.isAgg141
  z46 := Tryd.sizeOf141
  v46 := Tryd.zeroValue141
  t51 := Tryd.underlying160
  a51 := Tryd.isAgg160
  z51 := Tryd.sizeOf160
  v51 := Tryd.zeroValue160
  t59 := Tryd.underlying143
  a59 := Tryd.isAgg143
  z59 := Tryd.sizeOf143
  v59 := Tryd.zeroValue143
  t146 := Tryd.underlying161
  a146 := Tryd.isAgg161
  z146 := Tryd.sizeOf161
  v146 := Tryd.zeroValue161
  g1 := by kernel_rfl }
open Go.RowKit Go.Lib in
theorem Tryd.strings_Cut (s sep : ByteArray) (m : Int) (w : World) (hs : s.size < 4294967281) (hm : w.cell? ⟨0, 0, none⟩ = some (.int .i64 m)) :
    Calls Tryd.prog 118 #[.string s, .string sep] w fun e w' => e = .returned (.tuple #[.string ⟨(Lib.cut s.data.toList sep.data.toList).1.toArray⟩, .string ⟨(Lib.cut s.data.toList sep.data.toList).2.1.toArray⟩, .bool (Lib.cut s.data.toList sep.data.toList).2.2]) ∧ ∃ n, w' = w.drewN n := Any.strings_Cut Tryd.lays145 s sep m w hs hm
def Tryd.laysM219_ren : Go.Shelf.Ren := ⟨fun | 219 => 134 | 217 => 136 | 225 => 137 | 224 => 138 | 267 => 139 | 266 => 140 | 314 => 141 | n => n, fun | 9 => 9 | 3 => 3 | 4 => 4 | 5 => 5 | 46 => 141 | 146 => 161 | 51 => 160 | n => n, fun | 1 => 0 | n => n⟩
theorem Tryd.laysM219 : Go.Proofs.LaysM.n219 Tryd.prog Tryd.laysM219_ren := {
  mixed := by kernel_rfl
  f217 := Tryd.func136.trans (congrArg some (by kernel_rfl))
  f219 := Tryd.func134.trans (congrArg some (by kernel_rfl))
  f224 := Tryd.func138.trans (congrArg some (by kernel_rfl))
  f225 := Tryd.func137.trans (congrArg some (by kernel_rfl))
  f266 := Tryd.func140.trans (congrArg some (by kernel_rfl))
  f267 := Tryd.func139.trans (congrArg some (by kernel_rfl))
  f314 := Tryd.func141.trans (congrArg some (by kernel_rfl))
  t3 := Tryd.underlying3
  a3 := Tryd.isAgg3
  z3 := Tryd.sizeOf3
  v3 := Tryd.zeroValue3
  t4 := Tryd.underlying4
  a4 := Tryd.isAgg4
  z4 := Tryd.sizeOf4
  v4 := Tryd.zeroValue4
  t5 := Tryd.underlying5
  a5 := Tryd.isAgg5
  z5 := Tryd.sizeOf5
  v5 := Tryd.zeroValue5
  t9 := Tryd.underlying9
  a9 := Tryd.isAgg9
  z9 := Tryd.sizeOf9
  v9 := Tryd.zeroValue9
  t46 := Tryd.underlying141
  a46 := Tryd.isAgg141
  z46 := Tryd.sizeOf141
  v46 := Tryd.zeroValue141
  t51 := Tryd.underlying160
  a51 := Tryd.isAgg160
  z51 := Tryd.sizeOf160
  v51 := Tryd.zeroValue160
  t146 := Tryd.underlying161
  a146 := Tryd.isAgg161
  z146 := Tryd.sizeOf161
  v146 := Tryd.zeroValue161
  g1 := by kernel_rfl
  i3 := by kernel_rfl
  i4 := by kernel_rfl
  i5 := by kernel_rfl
  i9 := by kernel_rfl
  i46 := by kernel_rfl
  i51 := by kernel_rfl
  i146 := by kernel_rfl
  m1 := by kernel_rfl
  s1_3 := fun w h => Go.Proofs.cell_of_shapedOpen_int (zero := #[.int .i64 0]) (t := 3) h (of_decide_eq_true (by kernel_rfl)) (by kernel_rfl) rfl (by kernel_rfl) (by kernel_rfl) Tryd.underlying3 }
open Go.RowKit Go.Lib in
theorem Tryd.stringslite_Index_shaped (s sub : ByteArray) (w : World) (h : w.ShapedOpen Tryd.prog) (hs : s.size < 4294967281) :
    Calls Tryd.prog 134 #[.string s, .string sub] w fun e w' => e = .returned (.int .i64 (Lib.index s.data.toList sub.data.toList)) ∧ w' = w := Any.stringslite_Index_shaped Tryd.laysM219 s sub w h hs
def Tryd.laysM220_ren : Go.Shelf.Ren := ⟨fun | 220 => 129 | 219 => 134 | 217 => 136 | 225 => 137 | 224 => 138 | 267 => 139 | 266 => 140 | 314 => 141 | n => n, fun | 9 => 9 | 4 => 4 | 3 => 3 | 5 => 5 | 46 => 141 | 146 => 161 | 51 => 160 | n => n, fun | 1 => 0 | n => n⟩
theorem Tryd.laysM220 : Go.Proofs.LaysM.n220 Tryd.prog Tryd.laysM220_ren := {
  mixed := by kernel_rfl
  f217 := Tryd.func136.trans (congrArg some (by kernel_rfl))
  f219 := Tryd.func134.trans (congrArg some (by kernel_rfl))
  f220 := Tryd.func129.trans (congrArg some (by kernel_rfl))
  f224 := Tryd.func138.trans (congrArg some (by kernel_rfl))
  f225 := Tryd.func137.trans (congrArg some (by kernel_rfl))
  f266 := Tryd.func140.trans (congrArg some (by kernel_rfl))
  f267 := Tryd.func139.trans (congrArg some (by kernel_rfl))
  f314 := Tryd.func141.trans (congrArg some (by kernel_rfl))
  t3 := Tryd.underlying3
  a3 := Tryd.isAgg3
  z3 := Tryd.sizeOf3
  v3 := Tryd.zeroValue3
  t4 := Tryd.underlying4
  a4 := Tryd.isAgg4
  z4 := Tryd.sizeOf4
  v4 := Tryd.zeroValue4
  t5 := Tryd.underlying5
  a5 := Tryd.isAgg5
  z5 := Tryd.sizeOf5
  v5 := Tryd.zeroValue5
  t9 := Tryd.underlying9
  a9 := Tryd.isAgg9
  z9 := Tryd.sizeOf9
  v9 := Tryd.zeroValue9
  t46 := Tryd.underlying141
  a46 := Tryd.isAgg141
  z46 := Tryd.sizeOf141
  v46 := Tryd.zeroValue141
  t51 := Tryd.underlying160
  a51 := Tryd.isAgg160
  z51 := Tryd.sizeOf160
  v51 := Tryd.zeroValue160
  t146 := Tryd.underlying161
  a146 := Tryd.isAgg161
  z146 := Tryd.sizeOf161
  v146 := Tryd.zeroValue161
  g1 := by kernel_rfl
  i3 := by kernel_rfl
  i4 := by kernel_rfl
  i5 := by kernel_rfl
  i9 := by kernel_rfl
  i46 := by kernel_rfl
  i51 := by kernel_rfl
  i146 := by kernel_rfl
  m1 := by kernel_rfl
  s1_3 := fun w h => Go.Proofs.cell_of_shapedOpen_int (zero := #[.int .i64 0]) (t := 3) h (of_decide_eq_true (by kernel_rfl)) (by kernel_rfl) rfl (by kernel_rfl) (by kernel_rfl) Tryd.underlying3 }
open Go.RowKit Go.Lib in
theorem Tryd.stringslite_Cut_shaped (s sep : ByteArray) (w : World) (h : w.ShapedOpen Tryd.prog) (hs : s.size < 4294967281) :
    Calls Tryd.prog 129 #[.string s, .string sep] w fun e w' => e = .returned (.tuple #[.string ⟨(Lib.cut s.data.toList sep.data.toList).1.toArray⟩, .string ⟨(Lib.cut s.data.toList sep.data.toList).2.1.toArray⟩, .bool (Lib.cut s.data.toList sep.data.toList).2.2]) ∧ ∃ n, w' = w.drewN n := Any.stringslite_Cut_shaped Tryd.laysM220 s sep w h hs
def Tryd.laysM145_ren : Go.Shelf.Ren := ⟨fun | 145 => 118 | 220 => 129 | 219 => 134 | 217 => 136 | 225 => 137 | 224 => 138 | 267 => 139 | 266 => 140 | 314 => 141 | n => n, fun | 9 => 9 | 4 => 4 | 59 => 143 | 3 => 3 | 5 => 5 | 46 => 141 | 146 => 161 | 51 => 160 | n => n, fun | 1 => 0 | n => n⟩
theorem Tryd.laysM145 : Go.Proofs.LaysM.n145 Tryd.prog Tryd.laysM145_ren := {
  mixed := by kernel_rfl
  f145 := Tryd.func118.trans (congrArg some (by kernel_rfl))
  f217 := Tryd.func136.trans (congrArg some (by kernel_rfl))
  f219 := Tryd.func134.trans (congrArg some (by kernel_rfl))
  f220 := Tryd.func129.trans (congrArg some (by kernel_rfl))
  f224 := Tryd.func138.trans (congrArg some (by kernel_rfl))
  f225 := Tryd.func137.trans (congrArg some (by kernel_rfl))
  f266 := Tryd.func140.trans (congrArg some (by kernel_rfl))
  f267 := Tryd.func139.trans (congrArg some (by kernel_rfl))
  f314 := Tryd.func141.trans (congrArg some (by kernel_rfl))
  t3 := Tryd.underlying3
  a3 := Tryd.isAgg3
  z3 := Tryd.sizeOf3
  v3 := Tryd.zeroValue3
  t4 := Tryd.underlying4
  a4 := Tryd.isAgg4
  z4 := Tryd.sizeOf4
  v4 := Tryd.zeroValue4
  t5 := Tryd.underlying5
  a5 := Tryd.isAgg5
  z5 := Tryd.sizeOf5
  v5 := Tryd.zeroValue5
  t9 := Tryd.underlying9
  a9 := Tryd.isAgg9
  z9 := Tryd.sizeOf9
  v9 := Tryd.zeroValue9
  t46 := Tryd.underlying141
  a46 := Tryd.isAgg141
  z46 := Tryd.sizeOf141
  v46 := Tryd.zeroValue141
  t51 := Tryd.underlying160
  a51 := Tryd.isAgg160
  z51 := Tryd.sizeOf160
  v51 := Tryd.zeroValue160
  t59 := Tryd.underlying143
  a59 := Tryd.isAgg143
  z59 := Tryd.sizeOf143
  v59 := Tryd.zeroValue143
  t146 := Tryd.underlying161
  a146 := Tryd.isAgg161
  z146 := Tryd.sizeOf161
  v146 := Tryd.zeroValue161
  g1 := by kernel_rfl
  i3 := by kernel_rfl
  i4 := by kernel_rfl
  i5 := by kernel_rfl
  i9 := by kernel_rfl
  i46 := by kernel_rfl
  i51 := by kernel_rfl
  i59 := by kernel_rfl
  i146 := by kernel_rfl
  m1 := by kernel_rfl
  s1_3 := fun w h => Go.Proofs.cell_of_shapedOpen_int (zero := #[.int .i64 0]) (t := 3) h (of_decide_eq_true (by kernel_rfl)) (by kernel_rfl) rfl (by kernel_rfl) (by kernel_rfl) Tryd.underlying3 }
open Go.RowKit Go.Lib in
theorem Tryd.strings_Cut_shaped (s sep : ByteArray) (w : World) (h : w.ShapedOpen Tryd.prog) (hs : s.size < 4294967281) :
    Calls Tryd.prog 118 #[.string s, .string sep] w fun e w' => e = .returned (.tuple #[.string ⟨(Lib.cut s.data.toList sep.data.toList).1.toArray⟩, .string ⟨(Lib.cut s.data.toList sep.data.toList).2.1.toArray⟩, .bool (Lib.cut s.data.toList sep.data.toList).2.2]) ∧ ∃ n, w' = w.drewN n := Any.strings_Cut_shaped Tryd.laysM145 s sep w h hs
def Tryd.lays206_ren : Go.Shelf.Ren := ⟨fun | 206 => 108 | n => n, fun | 9 => 9 | 4 => 4 | 3 => 3 | n => n, fun | n => n⟩
theorem Tryd.lays206 : Go.Proofs.Lays.n206 Tryd.prog Tryd.lays206_ren := {
  mixed := by kernel_rfl
  f206 := Tryd.func108.trans (congrArg some (by kernel_rfl))
  t3 := Tryd.underlying3
  a3 := Tryd.isAgg3
  z3 := Tryd.sizeOf3
  v3 := Tryd.zeroValue3
  t4 := Tryd.underlying4
  a4 := Tryd.isAgg4
  z4 := Tryd.sizeOf4
  v4 := Tryd.zeroValue4
  t9 := Tryd.underlying9
  a9 := Tryd.isAgg9
  z9 := Tryd.sizeOf9
  v9 := Tryd.zeroValue9 }
open Go.RowKit Go.Lib in
theorem Tryd.stringslite_HasPrefix (s p : ByteArray) (w : World) :
    Calls Tryd.prog 108 #[.string s, .string p] w fun e w' => e = .returned (.bool (Lib.hasPrefix s.data.toList p.data.toList)) ∧ w' = w := Any.stringslite_HasPrefix Tryd.lays206 s p w
def Tryd.lays99_ren : Go.Shelf.Ren := ⟨fun | 99 => 85 | 206 => 108 | n => n, fun | 9 => 9 | 4 => 4 | 3 => 3 | n => n, fun | n => n⟩
theorem Tryd.lays99 : Go.Proofs.Lays.n99 Tryd.prog Tryd.lays99_ren := {
  mixed := by kernel_rfl
  f99 := Tryd.func85.trans (congrArg some (by kernel_rfl))
  f206 := Tryd.func108.trans (congrArg some (by kernel_rfl))
  t3 := Tryd.underlying3
  a3 := Tryd.isAgg3
  z3 := Tryd.sizeOf3
  v3 := Tryd.zeroValue3
  t4 := Tryd.underlying4
  a4 := Tryd.isAgg4
  z4 := Tryd.sizeOf4
  v4 := Tryd.zeroValue4
  t9 := Tryd.underlying9
  a9 := Tryd.isAgg9
  z9 := Tryd.sizeOf9
  v9 := Tryd.zeroValue9 }
open Go.RowKit Go.Lib in
theorem Tryd.strings_HasPrefix (s p : ByteArray) (w : World) :
    Calls Tryd.prog 85 #[.string s, .string p] w fun e w' => e = .returned (.bool (Lib.hasPrefix s.data.toList p.data.toList)) ∧ w' = w := Any.strings_HasPrefix Tryd.lays99 s p w
def Tryd.lays207_ren : Go.Shelf.Ren := ⟨fun | 207 => 133 | n => n, fun | 9 => 9 | 4 => 4 | 3 => 3 | n => n, fun | n => n⟩
theorem Tryd.lays207 : Go.Proofs.Lays.n207 Tryd.prog Tryd.lays207_ren := {
  mixed := by kernel_rfl
  f207 := Tryd.func133.trans (congrArg some (by kernel_rfl))
  t3 := Tryd.underlying3
  a3 := Tryd.isAgg3
  z3 := Tryd.sizeOf3
  v3 := Tryd.zeroValue3
  t4 := Tryd.underlying4
  a4 := Tryd.isAgg4
  z4 := Tryd.sizeOf4
  v4 := Tryd.zeroValue4
  t9 := Tryd.underlying9
  a9 := Tryd.isAgg9
  z9 := Tryd.sizeOf9
  v9 := Tryd.zeroValue9 }
open Go.RowKit Go.Lib in
theorem Tryd.stringslite_HasSuffix (s p : ByteArray) (w : World) (hs : s.size ≤ 9223372036854775807) :
    Calls Tryd.prog 133 #[.string s, .string p] w fun e w' => e = .returned (.bool (Lib.hasSuffix s.data.toList p.data.toList)) ∧ w' = w := Any.stringslite_HasSuffix Tryd.lays207 s p w hs
def Tryd.lays208_ren : Go.Shelf.Ren := ⟨fun | 208 => 128 | 206 => 108 | n => n, fun | 9 => 9 | 4 => 4 | 3 => 3 | n => n, fun | n => n⟩
theorem Tryd.lays208 : Go.Proofs.Lays.n208 Tryd.prog Tryd.lays208_ren := {
  mixed := by kernel_rfl
  f206 := Tryd.func108.trans (congrArg some (by kernel_rfl))
  f208 := Tryd.func128.trans (congrArg some (by kernel_rfl))
  t3 := Tryd.underlying3
  a3 := Tryd.isAgg3
  z3 := Tryd.sizeOf3
  v3 := Tryd.zeroValue3
  t4 := Tryd.underlying4
  a4 := Tryd.isAgg4
  z4 := Tryd.sizeOf4
  v4 := Tryd.zeroValue4
  t9 := Tryd.underlying9
  a9 := Tryd.isAgg9
  z9 := Tryd.sizeOf9
  v9 := Tryd.zeroValue9 }
open Go.RowKit Go.Lib in
theorem Tryd.stringslite_TrimPrefix (s p : ByteArray) (w : World) :
    Calls Tryd.prog 128 #[.string s, .string p] w fun e w' => e = .returned (.string ⟨(Lib.trimPrefix s.data.toList p.data.toList).toArray⟩) ∧ w' = w := Any.stringslite_TrimPrefix Tryd.lays208 s p w
def Tryd.lays101_ren : Go.Shelf.Ren := ⟨fun | 101 => 117 | 208 => 128 | 206 => 108 | n => n, fun | 9 => 9 | 4 => 4 | 3 => 3 | n => n, fun | n => n⟩
theorem Tryd.lays101 : Go.Proofs.Lays.n101 Tryd.prog Tryd.lays101_ren := {
  mixed := by kernel_rfl
  f101 := Tryd.func117.trans (congrArg some (by kernel_rfl))
  f206 := Tryd.func108.trans (congrArg some (by kernel_rfl))
  f208 := Tryd.func128.trans (congrArg some (by kernel_rfl))
  t3 := Tryd.underlying3
  a3 := Tryd.isAgg3
  z3 := Tryd.sizeOf3
  v3 := Tryd.zeroValue3
  t4 := Tryd.underlying4
  a4 := Tryd.isAgg4
  z4 := Tryd.sizeOf4
  v4 := Tryd.zeroValue4
  t9 := Tryd.underlying9
  a9 := Tryd.isAgg9
  z9 := Tryd.sizeOf9
  v9 := Tryd.zeroValue9 }
open Go.RowKit Go.Lib in
theorem Tryd.strings_TrimPrefix (s p : ByteArray) (w : World) :
    Calls Tryd.prog 117 #[.string s, .string p] w fun e w' => e = .returned (.string ⟨(Lib.trimPrefix s.data.toList p.data.toList).toArray⟩) ∧ w' = w := Any.strings_TrimPrefix Tryd.lays101 s p w
def Tryd.lays209_ren : Go.Shelf.Ren := ⟨fun | 209 => 127 | 207 => 133 | n => n, fun | 9 => 9 | 4 => 4 | 3 => 3 | n => n, fun | n => n⟩
theorem Tryd.lays209 : Go.Proofs.Lays.n209 Tryd.prog Tryd.lays209_ren := {
  mixed := by kernel_rfl
  f207 := Tryd.func133.trans (congrArg some (by kernel_rfl))
  f209 := Tryd.func127.trans (congrArg some (by kernel_rfl))
  t3 := Tryd.underlying3
  a3 := Tryd.isAgg3
  z3 := Tryd.sizeOf3
  v3 := Tryd.zeroValue3
  t4 := Tryd.underlying4
  a4 := Tryd.isAgg4
  z4 := Tryd.sizeOf4
  v4 := Tryd.zeroValue4
  t9 := Tryd.underlying9
  a9 := Tryd.isAgg9
  z9 := Tryd.sizeOf9
  v9 := Tryd.zeroValue9 }
open Go.RowKit Go.Lib in
theorem Tryd.stringslite_TrimSuffix (s p : ByteArray) (w : World) (hs : s.size ≤ 9223372036854775807) :
    Calls Tryd.prog 127 #[.string s, .string p] w fun e w' => e = .returned (.string ⟨(Lib.trimSuffix s.data.toList p.data.toList).toArray⟩) ∧ w' = w := Any.stringslite_TrimSuffix Tryd.lays209 s p w hs
def Tryd.lays102_ren : Go.Shelf.Ren := ⟨fun | 102 => 116 | 209 => 127 | 207 => 133 | n => n, fun | 9 => 9 | 4 => 4 | 3 => 3 | n => n, fun | n => n⟩
theorem Tryd.lays102 : Go.Proofs.Lays.n102 Tryd.prog Tryd.lays102_ren := {
  mixed := by kernel_rfl
  f102 := Tryd.func116.trans (congrArg some (by kernel_rfl))
  f207 := Tryd.func133.trans (congrArg some (by kernel_rfl))
  f209 := Tryd.func127.trans (congrArg some (by kernel_rfl))
  t3 := Tryd.underlying3
  a3 := Tryd.isAgg3
  z3 := Tryd.sizeOf3
  v3 := Tryd.zeroValue3
  t4 := Tryd.underlying4
  a4 := Tryd.isAgg4
  z4 := Tryd.sizeOf4
  v4 := Tryd.zeroValue4
  t9 := Tryd.underlying9
  a9 := Tryd.isAgg9
  z9 := Tryd.sizeOf9
  v9 := Tryd.zeroValue9 }
open Go.RowKit Go.Lib in
theorem Tryd.strings_TrimSuffix (s p : ByteArray) (w : World) (hs : s.size ≤ 9223372036854775807) :
    Calls Tryd.prog 116 #[.string s, .string p] w fun e w' => e = .returned (.string ⟨(Lib.trimSuffix s.data.toList p.data.toList).toArray⟩) ∧ w' = w := Any.strings_TrimSuffix Tryd.lays102 s p w hs
def Tryd.lays197_ren : Go.Shelf.Ren := ⟨fun | 197 => 123 | 260 => 132 | n => n, fun | 9 => 9 | 21 => 21 | 3 => 3 | 4 => 4 | 5 => 5 | 105 => 148 | 119 => 154 | 0 => 0 | 46 => 141 | 139 => 157 | 138 => 156 | n => n, fun | 3 => 1 | 4 => 2 | n => n⟩
theorem Tryd.lays197 : Go.Proofs.Lays.n197 Tryd.prog Tryd.lays197_ren := {
  mixed := by kernel_rfl
  f197 := Tryd.func123.trans (congrArg some (by kernel_rfl))
  f260 := Tryd.func132.trans (congrArg some (by kernel_rfl))
  t0 := Tryd.underlying0
  a0 := Tryd.isAgg0
  z0 := Tryd.sizeOf0
  v0 := Tryd.zeroValue0
  t3 := Tryd.underlying3
  a3 := Tryd.isAgg3
  z3 := Tryd.sizeOf3
  v3 := Tryd.zeroValue3
  t4 := Tryd.underlying4
  a4 := Tryd.isAgg4
  z4 := Tryd.sizeOf4
  v4 := Tryd.zeroValue4
  t5 := Tryd.underlying5
  a5 := Tryd.isAgg5
  z5 := Tryd.sizeOf5
  v5 := Tryd.zeroValue5
  t9 := Tryd.underlying9
  a9 := Tryd.isAgg9
  z9 := Tryd.sizeOf9
  v9 := Tryd.zeroValue9
  t21 := Tryd.underlying21
  a21 := Tryd.isAgg21
  z21 := Tryd.sizeOf21
  v21 := Tryd.zeroValue21
  t46 := Tryd.underlying141
  a46 := Tryd.isAgg141
  z46 := Tryd.sizeOf141
  v46 := Tryd.zeroValue141
  t105 := Tryd.underlying148
  a105 := Tryd.isAgg148
  z105 := Tryd.sizeOf148
  v105 := Tryd.zeroValue148
  t119 := Tryd.underlying154
  a119 := Tryd.isAgg154
  z119 := Tryd.sizeOf154
  t138 := Tryd.underlying156
  a138 := Tryd.isAgg156
  z138 := Tryd.sizeOf156
  v138 := Tryd.zeroValue156
  t139 := Tryd.underlying157
  a139 := Tryd.isAgg157
  z139 := Tryd.sizeOf157
  v139 := Tryd.zeroValue157
  g3 := by kernel_rfl
  g4 := by kernel_rfl }
open Go.RowKit Go.Lib in
theorem Tryd.utf8_DecodeRuneInString_ascii (s : ByteArray) (x : UInt8) (w : World) (h0 : s.data.toList[0]? = some x) (hx : x.toNat < 128) :
    Calls Tryd.prog 123 #[.string s] w fun e w' => e = .returned (.tuple #[.int .i32 x.toNat, .int .i64 1]) ∧ w' = w := Any.utf8_DecodeRuneInString_ascii Tryd.lays197 s x w h0 hx
def Tryd.lays260_ren : Go.Shelf.Ren := ⟨fun | 260 => 132 | n => n, fun | 9 => 9 | 21 => 21 | 3 => 3 | 4 => 4 | 5 => 5 | 119 => 154 | 0 => 0 | 46 => 141 | 139 => 157 | 138 => 156 | n => n, fun | 3 => 1 | 4 => 2 | n => n⟩
theorem Tryd.lays260 : Go.Proofs.Lays.n260 Tryd.prog Tryd.lays260_ren := {
  mixed := by kernel_rfl
  f260 := Tryd.func132.trans (congrArg some (by kernel_rfl))
  t0 := Tryd.underlying0
  a0 := Tryd.isAgg0
  z0 := Tryd.sizeOf0
  v0 := Tryd.zeroValue0
  t3 := Tryd.underlying3
  a3 := Tryd.isAgg3
  z3 := Tryd.sizeOf3
  v3 := Tryd.zeroValue3
  t4 := Tryd.underlying4
  a4 := Tryd.isAgg4
  z4 := Tryd.sizeOf4
  v4 := Tryd.zeroValue4
  t5 := Tryd.underlying5
  a5 := Tryd.isAgg5
  z5 := Tryd.sizeOf5
  v5 := Tryd.zeroValue5
  t9 := Tryd.underlying9
  a9 := Tryd.isAgg9
  z9 := Tryd.sizeOf9
  v9 := Tryd.zeroValue9
  t21 := Tryd.underlying21
  a21 := Tryd.isAgg21
  z21 := Tryd.sizeOf21
  v21 := Tryd.zeroValue21
  t46 := Tryd.underlying141
  a46 := Tryd.isAgg141
  z46 := Tryd.sizeOf141
  v46 := Tryd.zeroValue141
  t119 := Tryd.underlying154
  a119 := Tryd.isAgg154
  z119 := Tryd.sizeOf154
  t138 := Tryd.underlying156
  a138 := Tryd.isAgg156
  z138 := Tryd.sizeOf156
  v138 := Tryd.zeroValue156
  t139 := Tryd.underlying157
  a139 := Tryd.isAgg157
  z139 := Tryd.sizeOf157
  v139 := Tryd.zeroValue157
  g3 := by kernel_rfl
  g4 := by kernel_rfl }
open Go.RowKit Go.Lib in
theorem Tryd.utf8_decodeRuneInStringSlow (s : ByteArray) (w : World) (hT : Lib.Utf8Tabs 1 2 w) :
    Calls Tryd.prog 132 #[.string s] w fun e w' => e = .returned (.tuple #[.int .i32 (Lib.decodeGo s).1, .int .i64 (Lib.decodeGo s).2]) ∧ Below w.heap.size w w' := Any.utf8_decodeRuneInStringSlow Tryd.lays260 s w hT
open Go.RowKit Go.Lib in
theorem Tryd.utf8_DecodeRuneInString (s : ByteArray) (w : World) (hT : Lib.Utf8Tabs 1 2 w) :
    Calls Tryd.prog 123 #[.string s] w fun e w' => e = .returned (.tuple #[.int .i32 (Lib.decodeGo s).1, .int .i64 (Lib.decodeGo s).2]) ∧ Below w.heap.size w w' := Any.utf8_DecodeRuneInString Tryd.lays197 s w hT
def Tryd.lays109_ren : Go.Shelf.Ren := ⟨fun | 109 => 109 | n => n, fun | 31 => 45 | 9 => 9 | 3 => 3 | 0 => 0 | 4 => 4 | n => n, fun | n => n⟩
theorem Tryd.lays109 : Go.Proofs.Lays.n109 Tryd.prog Tryd.lays109_ren := {
  mixed := by kernel_rfl
  f109 := Tryd.func109.trans (congrArg some (by kernel_rfl))
  t0 := Tryd.underlying0
  a0 := Tryd.isAgg0
  z0 := Tryd.sizeOf0
  v0 := Tryd.zeroValue0
  t3 := Tryd.underlying3
  a3 := Tryd.isAgg3
  z3 := Tryd.sizeOf3
  v3 := Tryd.zeroValue3
  t4 := Tryd.underlying4
  a4 := Tryd.isAgg4
  z4 := Tryd.sizeOf4
  v4 := Tryd.zeroValue4
  t9 := Tryd.underlying9
  a9 := Tryd.isAgg9
  z9 := Tryd.sizeOf9
  v9 := Tryd.zeroValue9
  t31 := Tryd.underlying45
  a31 := Tryd.isAgg45
  z31 := Tryd.sizeOf45
  v31 := Tryd.zeroValue45 }
open Go.Lib in
theorem Tryd.slices_Index_string (b off n c : Nat) (zs : List ByteArray) (x : ByteArray) (w : World) (hz : n ≤ zs.length) (hbig : n ≤ 9223372036854775807) (hc : ∀ j, j < zs.length → w.cell? ⟨b, off + j, none⟩ = some (.string (zs.getD j ByteArray.empty))) :
    Calls Tryd.prog 109 #[.slice (some ⟨b, off, none⟩) n c, .string x] w fun e w' => e = .returned (.int .i64 (Lib.idxOfS (zs.take n) x)) ∧ w' = w := Any.slices_Index_string Tryd.lays109 b off n c zs x w hz hbig hc
open Go.Lib in
theorem Tryd.slices_Index_string_empty (a : Option Addr) (c : Nat) (x : ByteArray) (w : World) :
    Calls Tryd.prog 109 #[.slice a 0 c, .string x] w fun e w' => e = .returned (.int .i64 (Lib.idxOfS [] x)) ∧ w' = w := Any.slices_Index_string_empty Tryd.lays109 a c x w
def Tryd.lays110_ren : Go.Shelf.Ren := ⟨fun | 110 => 87 | 109 => 109 | n => n, fun | 31 => 45 | 9 => 9 | 4 => 4 | 3 => 3 | 0 => 0 | n => n, fun | n => n⟩
theorem Tryd.lays110 : Go.Proofs.Lays.n110 Tryd.prog Tryd.lays110_ren := {
  mixed := by kernel_rfl
  f109 := Tryd.func109.trans (congrArg some (by kernel_rfl))
  f110 := Tryd.func87.trans (congrArg some (by kernel_rfl))
  t0 := Tryd.underlying0
  a0 := Tryd.isAgg0
  z0 := Tryd.sizeOf0
  v0 := Tryd.zeroValue0
  t3 := Tryd.underlying3
  a3 := Tryd.isAgg3
  z3 := Tryd.sizeOf3
  v3 := Tryd.zeroValue3
  t4 := Tryd.underlying4
  a4 := Tryd.isAgg4
  z4 := Tryd.sizeOf4
  v4 := Tryd.zeroValue4
  t9 := Tryd.underlying9
  a9 := Tryd.isAgg9
  z9 := Tryd.sizeOf9
  v9 := Tryd.zeroValue9
  t31 := Tryd.underlying45
  a31 := Tryd.isAgg45
  z31 := Tryd.sizeOf45
  v31 := Tryd.zeroValue45 }
open Go.Lib in
theorem Tryd.slices_Contains_string (b off n c : Nat) (zs : List ByteArray) (x : ByteArray) (w : World) (hz : n ≤ zs.length) (hbig : n ≤ 9223372036854775807) (hc : ∀ j, j < zs.length → w.cell? ⟨b, off + j, none⟩ = some (.string (zs.getD j ByteArray.empty))) :
    Calls Tryd.prog 87 #[.slice (some ⟨b, off, none⟩) n c, .string x] w fun e w' => e = .returned (.bool (Lib.containsS (zs.take n) x)) ∧ w' = w := Any.slices_Contains_string Tryd.lays110 b off n c zs x w hz hbig hc
open Go.Lib in
theorem Tryd.slices_Contains_string_empty (a : Option Addr) (c : Nat) (x : ByteArray) (w : World) :
    Calls Tryd.prog 87 #[.slice a 0 c, .string x] w fun e w' => e = .returned (.bool false) ∧ w' = w := Any.slices_Contains_string_empty Tryd.lays110 a c x w
def Tryd.laysNm237_ren : Go.Shelf.Ren := ⟨fun | 37 => 125 | n => n, fun | 3 => 3 | 4 => 4 | n => n, fun | n => n⟩
theorem Tryd.laysNm237 : Go.Proofs.Lays2.n37 Tryd.prog Tryd.laysNm237_ren := {
  mixed := by kernel_rfl
  f37 := Tryd.func125.trans (congrArg some (by kernel_rfl))
  t3 := Tryd.underlying3
  a3 := Tryd.isAgg3
  z3 := Tryd.sizeOf3
  v3 := Tryd.zeroValue3
  t4 := Tryd.underlying4
  a4 := Tryd.isAgg4
  z4 := Tryd.sizeOf4
  v4 := Tryd.zeroValue4 }
open Go.RowKit Go.Lib in
theorem Tryd.cmp_isNaN_int2 (x : Int) (w : World) :
    Calls Tryd.prog 125 #[.int .i64 x] w fun e w' => e = .returned (.bool false) ∧ w' = w := Any.cmp_isNaN_int2 Tryd.laysNm237 x w
end Go.Proofs
/-
  Layer 4 (label): quoting: what the program's Quote, and the document's own Quote and Quoted, return; all that was in memory stays.
-/
namespace Go.Proofs.YtdbifbgjbfnfmaaDoor
open Go.RowKit Go.Deep
attribute [local go_sem] str_size str_append str_toList str_get str_extract
set_option linter.unusedVariables false
set_option linter.unusedSimpArgs false

theorem byte_info : (Tryd.prog.info? 5).map (fun i => (i.zero, i.size, i.bytes)) = some (some (.int .u8 0), 1, 1) := by kernel_rfl
/-- 'string(b)' of a row of the call's own. -/
theorem conv_mine {P : Program} (W : World) (src dst e : TypeId) (hs : P.underlying src = some (.slice e)) (he : P.underlying e = some (.int .u8)) (hd : P.underlying dst = some .string)
    (B : Nat) (l : List UInt8) (A : Option Addr) (n cap : Nat) (hn : n = l.length) (hr : W.ownsRow B e 1 (.slice A n cap) n (l.map fun b => .int .u8 (b.toNat : Int))) :
    (convert src dst (.slice A n cap)).run P W = .ok (.string (str l)) W := by
  subst hn
  rcases hr.2 with ⟨h, h0⟩ | ⟨g, c, cur, h, _⟩
  · injection h with h1 h2 h3
    subst h1 h3
    have hl : l = [] := List.eq_nil_of_length_eq_zero h0
    subst hl
    rw [run_convert_bytes_string W src dst e none _ _ hs he hd]
    simp [Conv.bytesToString]
    rfl
  · injection h with h1 h2 h3
    subst h1 h3
    refine run_convert_bytes_back W src dst e ⟨g, 0, none⟩ cap l hs he hd (fun j hj => ?_)
    exact hr.cells (g := g) rfl j _ (by simp [hj])
/-- A row of bytes of the call's own, from block B on. -/
def HasY (B : Nat) (v : Value) (l : List UInt8) (w : World) : Prop := ∃ g cap, v = .slice (some ⟨g, 0, none⟩) l.length cap ∧ w.ownsRow B 5 1 v l.length (l.map fun b => .int .u8 (b.toNat : Int))
theorem HasY.of {B g cap n : Nat} {l : List UInt8} {xs : List Value} {w : World} (h : w.ownsRow B 5 1 (.slice (some ⟨g, 0, none⟩) n cap) n xs) (hn : n = l.length) (hx : xs = l.map fun b => .int .u8 (b.toNat : Int)) : HasY B (.slice (some ⟨g, 0, none⟩) n cap) l w := by
  subst hn hx; exact ⟨g, cap, rfl, h⟩
/-- A row of bytes that the call has just made. -/
theorem own_new (w : World) (e : TypeId) (cs : Array Value) (n : Nat) (h : cs.size = n) (hm : n ≤ maxLen) : (w.alloc (.cells cs e)).ownsRow w.heap.size e 1 (.slice (some ⟨w.heap.size, 0, none⟩) n n) n cs.toList :=
  ⟨by simp [h], .inr ⟨_, _, cs, rfl, Nat.le_refl _, heap_alloc_new _ _, Nat.le_refl _, hm, by omega, by rw [← h, Nat.mul_one]; exact List.take_length⟩⟩
theorem ownLow {w : World} {base : Nat} {e : TypeId} {size : Nat} {v : Value} {n : Nat} {xs : List Value} (h : w.ownsRow base e size v n xs) : ∀ k, v.ownBlock = some k → base ≤ k := by
  intro k hk
  rcases h.2 with ⟨rfl, _⟩ | ⟨g, c, cur, rfl, hg, _⟩
  · simp [Value.ownBlock] at hk
  · simp [Value.ownBlock] at hk; omega
theorem cells_two_new (w : World) (x y : Value) (t : TypeId) : ∀ j u, [x, y][j]? = some u → (w.alloc (.cells #[x, y] t)).cell? ((⟨w.heap.size, 0, none⟩ : Addr).add j) = some u := by
  intro j u hj
  match j, hj with
  | 0, hj => simp at hj; subst hj; simp [Addr.add, World.cell?_alloc_mark]
  | 1, hj => simp at hj; subst hj; simp [Addr.add, World.cell?_alloc_mark]
  | j + 2, hj => simp at hj
theorem quoteC_of {c : UInt8} {l : List UInt8} (h : l = quoteC c) : quoteC c = l := h.symm
theorem quote_c (s : List UInt8) (w : World) (hs : s.length ≤ 1048576) : Calls Tryd.prog 71 #[.string (str s)] w fun e w' => e = .returned (.string (str (quoteL s))) ∧ Below w.heap.size w w' := by
  obtain ⟨i0, hi0, hz0, hz1, hz2⟩ := info_parts byte_info
  obtain ⟨R, hR⟩ : ∃ R, quoteL s = R := ⟨_, rfl⟩
  rw [hR]
  have HR := Lib.hid hR
  clear hR
  go_enter Tryd.func71, Tryd.ntmps71
  go_wp2_with fail
  go_loopw [3, 8] (fun v c wr => ∃ i : Nat, i ≤ s.length ∧ c = .int .i64 i ∧ HasY w.heap.size v (34 :: quoteB (s.take i)) wr ∧ Below w.heap.size w wr) (fun _ c _ => s.length - (intOf c).toNat)
  case atStart =>
    refine ⟨0, Nat.zero_le _, rfl, ?_, (Below.refl _ _).alloc (Nat.le_refl _) _⟩
    exact ⟨_, _, rfl, own_new w _ #[.int .u8 34] 1 rfl (by unfold maxLen; omega)⟩
  case round =>
    obtain ⟨i, hi, rfl, ⟨g, cap, rfl, hown⟩, hb⟩ := hrel
    have hql := quoteB_len (s.take i)
    rw [List.length_take, Nat.min_eq_left hi] at hql
    have hsz := hb.size
    by_cases hlt : i < s.length
    · have hst := quoteB_take s i hlt
      obtain ⟨x, hx⟩ : ∃ x, s[i] = x := ⟨_, rfl⟩
      rw [hx] at hst
      obtain ⟨L, hL⟩ : ∃ L, 34 :: quoteB (s.take i) = L := ⟨_, rfl⟩
      have hLl : L.length ≤ 2 * s.length + 1 := by rw [← hL, List.length_cons]; omega
      have HS : Hid (34 :: quoteB (s.take (i + 1)) = L ++ quoteC x) := by show _ = _; rw [hst, ← hL]; rfl
      rw [hL] at hown ⊢
      clear hst hL hql
      have HO := fun cs => Lib.hid (hown.alloc (.cells cs 5))
      have hxl : x.toNat < 256 := x.toNat_lt
      have hrow : ∀ k, (Value.slice (some ⟨g, 0, none⟩) L.length cap).ownBlock = some k → w.heap.size ≤ k := ownLow hown
      clear hown
      by_cases h1 : x.toNat = 34
      · have t1 : (((x.toNat : Nat) : Int) == 34) = true := by simp [h1]
        have HQ : Hid (quoteC x = [92, 34]) := by show _ = _; unfold quoteC; rw [if_pos h1]
        go_wp2_with (at_builtin; refine wpList_append_lies _ rfl (.tmp 23) (.tmp 27) 78 rfl w.heap.size 5 i0 (.int .u8 0) 1 1 Tryd.underlying78 hi0 hz0 hz1 hz2 rfl (by decide) _ L.length _ rfl (HO _).out ⟨wr.heap.size, 0, none⟩ 2 2 [.int .u8 92, .int .u8 34] rfl rfl ?c1 ?c2 (by decide) ?c3 ?c4 ?c5 _ rfl ?c6)
        case c1 => first | exact cell_one_new _ _ _ | exact cells_two_new _ _ _ _
        case c2 => intro u hu; simp at hu; first | (subst hu; rfl) | (rcases hu with rfl | rfl <;> rfl)
        case c3 => unfold maxLen; omega
        case c4 => omega
        case c5 => simp; omega
        case c6 =>
          intro g1 cap1 w1 hown1 hg1 _ hl1
          go_wp2_with fail
          go_roundw
          case rel =>
            refine ⟨i + 1, by omega, by go_num, ?_, ?_⟩
            · rw [HS.out]; exact HasY.of hown1 (by rw [HQ.out]; simp) (by rw [HQ.out]; simp)
            · exact (hb.alloc hsz _).grown hg1 (by simp; omega) hrow
          case measure => simp [intOf]; omega
      · have t1 : (((x.toNat : Nat) : Int) == 34) = false := by simp; omega
        by_cases h2 : x.toNat = 92
        · have t2 : (((x.toNat : Nat) : Int) == 92) = true := by simp [h2]
          have HQ : Hid (quoteC x = [92, 92]) := by show _ = _; unfold quoteC; rw [if_neg h1, if_pos h2]
          go_wp2_with (at_builtin; refine wpList_append_lies _ rfl (.tmp 23) (.tmp 27) 78 rfl w.heap.size 5 i0 (.int .u8 0) 1 1 Tryd.underlying78 hi0 hz0 hz1 hz2 rfl (by decide) _ L.length _ rfl (HO _).out ⟨wr.heap.size, 0, none⟩ 2 2 [.int .u8 92, .int .u8 92] rfl rfl ?c1 ?c2 (by decide) ?c3 ?c4 ?c5 _ rfl ?c6)
          case c1 => first | exact cell_one_new _ _ _ | exact cells_two_new _ _ _ _
          case c2 => intro u hu; simp at hu; first | (subst hu; rfl) | (rcases hu with rfl | rfl <;> rfl)
          case c3 => unfold maxLen; omega
          case c4 => omega
          case c5 => simp; omega
          case c6 =>
            intro g1 cap1 w1 hown1 hg1 _ hl1
            go_wp2_with fail
            go_roundw
            case rel =>
              refine ⟨i + 1, by omega, by go_num, ?_, ?_⟩
              · rw [HS.out]; exact HasY.of hown1 (by rw [HQ.out]; simp) (by rw [HQ.out]; simp)
              · exact (hb.alloc hsz _).grown hg1 (by simp; omega) hrow
            case measure => simp [intOf]; omega
        · have t2 : (((x.toNat : Nat) : Int) == 92) = false := by simp; omega
          by_cases h3 : x.toNat = 10
          · have t3 : (((x.toNat : Nat) : Int) == 10) = true := by simp [h3]
            have HQ : Hid (quoteC x = [92, 110]) := by show _ = _; unfold quoteC; rw [if_neg h1, if_neg h2, if_pos h3]
            go_wp2_with (at_builtin; refine wpList_append_lies _ rfl (.tmp 31) (.tmp 32) 78 rfl w.heap.size 5 i0 (.int .u8 0) 1 1 Tryd.underlying78 hi0 hz0 hz1 hz2 rfl (by decide) _ L.length _ rfl (HO _).out ⟨wr.heap.size, 0, none⟩ 2 2 [.int .u8 92, .int .u8 110] rfl rfl ?c1 ?c2 (by decide) ?c3 ?c4 ?c5 _ rfl ?c6)
            case c1 => first | exact cell_one_new _ _ _ | exact cells_two_new _ _ _ _
            case c2 => intro u hu; simp at hu; first | (subst hu; rfl) | (rcases hu with rfl | rfl <;> rfl)
            case c3 => unfold maxLen; omega
            case c4 => omega
            case c5 => simp; omega
            case c6 =>
              intro g1 cap1 w1 hown1 hg1 _ hl1
              go_wp2_with fail
              go_roundw
              case rel =>
                refine ⟨i + 1, by omega, by go_num, ?_, ?_⟩
                · rw [HS.out]; exact HasY.of hown1 (by rw [HQ.out]; simp) (by rw [HQ.out]; simp)
                · exact (hb.alloc hsz _).grown hg1 (by simp; omega) hrow
              case measure => simp [intOf]; omega
          · have t3 : (((x.toNat : Nat) : Int) == 10) = false := by simp; omega
            have HQ : Hid (quoteC x = [x]) := by show _ = _; unfold quoteC; rw [if_neg h1, if_neg h2, if_neg h3]
            go_wp2_with (at_builtin; refine wpList_append_lies _ rfl (.tmp 14) (.tmp 18) 78 rfl w.heap.size 5 i0 (.int .u8 0) 1 1 Tryd.underlying78 hi0 hz0 hz1 hz2 rfl (by decide) _ L.length _ rfl (HO _).out ⟨wr.heap.size, 0, none⟩ 1 1 [.int .u8 (x.toNat : Int)] rfl rfl ?c1 ?c2 (by decide) ?c3 ?c4 ?c5 _ rfl ?c6)
            case c1 => first | exact cell_one_new _ _ _ | exact cells_two_new _ _ _ _
            case c2 => intro u hu; simp at hu; first | (subst hu; rfl) | (rcases hu with rfl | rfl <;> rfl)
            case c3 => unfold maxLen; omega
            case c4 => omega
            case c5 => simp; omega
            case c6 =>
              intro g1 cap1 w1 hown1 hg1 _ hl1
              go_wp2_with fail
              go_roundw
              case rel =>
                refine ⟨i + 1, by omega, by go_num, ?_, ?_⟩
                · rw [HS.out]; exact HasY.of hown1 (by rw [HQ.out]; simp) (by rw [HQ.out]; simp)
                · exact (hb.alloc hsz _).grown hg1 (by simp; omega) hrow
              case measure => simp [intOf]; omega
    · obtain rfl : i = s.length := by omega
      obtain ⟨L, hL⟩ : ∃ L, 34 :: quoteB (s.take s.length) = L := ⟨_, rfl⟩
      have hLl : L.length ≤ 2 * s.length + 1 := by rw [← hL, List.length_cons]; omega
      have HR' : Hid (R = L ++ [34]) := by show _ = _; rw [← HR.out, ← hL, List.take_length]; rfl
      rw [hL] at hown ⊢
      clear hL hql
      have HO := fun cs => Lib.hid (hown.alloc (.cells cs 5))
      have hrow : ∀ k, (Value.slice (some ⟨g, 0, none⟩) L.length cap).ownBlock = some k → w.heap.size ≤ k := ownLow hown
      clear hown
      go_wp2_with (at_builtin; refine wpList_append_lies _ rfl (.tmp 35) (.tmp 36) 78 rfl w.heap.size 5 i0 (.int .u8 0) 1 1 Tryd.underlying78 hi0 hz0 hz1 hz2 rfl (by decide) _ L.length _ rfl (HO _).out ⟨wr.heap.size, 0, none⟩ 1 1 [.int .u8 34] rfl rfl ?c1 ?c2 (by decide) ?c3 ?c4 ?c5 _ rfl ?c6)
      case c1 => exact cell_one_new _ _ _
      case c2 => intro u hu; simp at hu; subst hu; rfl
      case c3 => unfold maxLen; omega
      case c4 => omega
      case c5 => simp; omega
      case c6 =>
        intro g1 cap1 w1 hown1 hg1 _ hl1
        have hcv := conv_mine (P := Tryd.prog) w1 78 9 5 Tryd.underlying78 Tryd.underlying5 Tryd.underlying9 w.heap.size (L ++ [34]) _ (L.length + 1) cap1 (by simp) (by simpa using hown1)
        clear hown1
        go_wp2_with fail
        go_ret
        exact ⟨ret_str HR'.out.symm, (hb.alloc hsz _).grown hg1 (by simp; omega) hrow⟩
end Go.Proofs.YtdbifbgjbfnfmaaDoor
/-
  Layer 4 (label): a slice of labels in memory; whether it is heavy; two of them compared.
-/
namespace Go.Proofs.YtdbifbgjbfnfmaaDoor
open Go.RowKit Go.Deep
attribute [local go_sem] str_size str_append str_toList str_get str_extract
set_option linter.unusedVariables false
set_option linter.unusedSimpArgs false

/-- A slice of labels that was there. -/
def LAt (w : World) (A : Option Addr) (len : Nat) (l : List Lab) : Prop :=
  len = l.length ∧ ∀ i (h : i < l.length), (l[i].1.length ≤ 9223372036854775807 ∧ l[i].2.length ≤ 9223372036854775807) ∧
    ∃ ad, A = some ad ∧ (ad.add (i * 2)).block < w.heap.size ∧ w.cell? (ad.add (i * 2)) = some (.string (str l[i].1)) ∧ w.cell? ⟨(ad.add (i * 2)).block, (ad.add (i * 2)).off + 1, none⟩ = some (.string (str l[i].2))
theorem LAt.below {w w' : World} {A : Option Addr} {len : Nat} {l : List Lab} (h : LAt w A len l) (hb : Below w.heap.size w w') : LAt w' A len l :=
  ⟨h.1, fun i hi => by
    obtain ⟨h1, ad, rfl, h2, h3, h4⟩ := h.2 i hi
    exact ⟨h1, ad, rfl, Nat.lt_of_lt_of_le h2 hb.size, (hb.cell (p := ad.add (i * 2)) h2).trans h3, (hb.cell (p := ⟨(ad.add (i * 2)).block, (ad.add (i * 2)).off + 1, none⟩) h2).trans h4⟩⟩
theorem LAt.drew {w : World} {A : Option Addr} {len : Nat} {l : List Lab} (h : LAt w A len l) : LAt w.drew A len l := h
theorem LAt.drewN {w : World} {A : Option Addr} {len : Nat} {l : List Lab} (h : LAt w A len l) (n : Nat) : LAt (w.drewN n) A len l := h
theorem LAt.nil (w : World) (A : Option Addr) : LAt w A 0 [] := ⟨rfl, fun i h => by simp at h⟩
theorem lab_cells : Tryd.prog.cellsOf 60 = 2 := by kernel_rfl
theorem lab_info : (Tryd.prog.info? 60).map (fun i => (i.zero, i.size, i.bytes)) = some (some (.agg #[.string (str []), .string (str [])]), 2, 32) := by kernel_rfl

/-! the cells of a row of labels -/
def labC : List Lab → List Value
  | [] => []
  | x :: r => .string (str x.1) :: .string (str x.2) :: labC r
theorem labC_append (l m : List Lab) : labC (l ++ m) = labC l ++ labC m := by
  induction l with
  | nil => rfl
  | cons x r ih => simp [labC, ih]
theorem labC_length (l : List Lab) : (labC l).length = 2 * l.length := by
  induction l with
  | nil => rfl
  | cons x r ih => simp [labC, ih]; omega
theorem labC_get (l : List Lab) : ∀ i (h : i < l.length), (labC l)[2 * i]? = some (.string (str l[i].1)) ∧ (labC l)[2 * i + 1]? = some (.string (str l[i].2)) := by
  induction l with
  | nil => intro i h; simp at h
  | cons x r ih =>
    intro i h
    cases i with
    | zero => exact ⟨rfl, rfl⟩
    | succ i => exact ih i (by simpa using h)
/-- A row of labels of the call's own, from block B on. -/
def HasL (B : Nat) (v : Value) (l : List Lab) (w : World) : Prop := ∃ g cap, v = .slice (some ⟨g, 0, none⟩) l.length cap ∧ w.ownsRow B 60 2 v l.length (labC l)
/-- What a row that the call owns is to others. -/
theorem own_lat {B : Nat} {v : Value} {n : Nat} {l : List Lab} {w : World} {A : Option Addr} {cap : Nat} (h : w.ownsRow B 60 2 (.slice A n cap) n (labC l)) (hn : n = l.length) (hs : ∀ x ∈ l, x.1.length ≤ 9223372036854775807 ∧ x.2.length ≤ 9223372036854775807) : LAt w A n l := by
  refine ⟨hn, fun i hi => ⟨hs _ (List.getElem_mem hi), ?_⟩⟩
  rcases h.2 with ⟨e, h0⟩ | ⟨g, c, cur, e, hg, hb, _⟩
  · omega
  · injection e with e1 e2 e3
    subst e1
    have hc := labC_get l i hi
    have h0 := h.cellAt (2 * i) (by omega)
    have h1 := h.cellAt (2 * i + 1) (by omega)
    rw [hc.1] at h0
    rw [hc.2] at h1
    have ea : (⟨g, 0, none⟩ : Addr).add (i * 2) = ⟨g, 2 * i, none⟩ := by
      unfold Addr.add
      split <;> simp_all <;> omega
    refine ⟨_, rfl, ?_, ?_, ?_⟩
    · rw [ea]; exact lt_of_block hb
    · rw [ea]; exact h0
    · rw [ea]; exact h1

/-! heavy -/
def sizeL (l : List Lab) : Nat := (l.map fun x => x.1.length + x.2.length).sum
theorem sizeL_append (a b : List Lab) : sizeL (a ++ b) = sizeL a + sizeL b := by simp [sizeL]
theorem sizeL_take (l : List Lab) (i : Nat) (h : i < l.length) : sizeL (l.take (i + 1)) = sizeL (l.take i) + (l[i].1.length + l[i].2.length) := by
  rw [List.take_succ_eq_append_getElem h, sizeL_append]; simp [sizeL]
theorem sizeL_take_le (l : List Lab) (i : Nat) : sizeL (l.take i) ≤ sizeL l := by
  have h : sizeL l = sizeL (l.take i) + sizeL (l.drop i) := by
    rw [← sizeL_append, List.take_append_drop]
  omega
theorem sizeL_mem (l : List Lab) : ∀ x ∈ l, x.1.length + x.2.length ≤ sizeL l := by
  induction l with
  | nil => intro x h; simp at h
  | cons y r ih =>
    intro x h
    simp only [sizeL, List.map_cons, List.sum_cons]
    rcases List.mem_cons.1 h with rfl | h
    · omega
    · have := ih x h; simp only [sizeL] at this; omega
def heavyL (l : List Lab) : Bool := decide (2048 < l.length + sizeL l)
theorem refSame_c (A A' : Option Addr) (len len' cap cap' : Nat) (l m : List Lab) (w : World) (hl : l.length ≤ 100000) (hm : m.length ≤ 100000) (hA : LAt w A len l) (hB : LAt w A' len' m) :
    Calls Tryd.prog 13 #[.slice A len cap, .slice A' len' cap'] w fun e w' => e = .returned (.bool (decide (l = m))) ∧ Below w.heap.size w w' := by
  have hle := hA.1
  have hme := hB.1
  subst hle hme
  by_cases hlen : l.length = m.length
  · obtain ⟨r, hr⟩ : ∃ r, decide (l = m) = r := ⟨_, rfl⟩
    rw [hr]
    have HR := Lib.hid hr
    clear hr
    go_enter Tryd.func13, Tryd.ntmps13
    go_wp2_with fail
    go_loopw [5] (fun c wr => ∃ i : Nat, i ≤ l.length ∧ c = .int .i64 i ∧ Hid (l.take i = m.take i) ∧ Below w.heap.size w wr) (fun c _ => l.length - (intOf c).toNat)
    case atStart => exact ⟨0, Nat.zero_le _, rfl, rfl, Below.refl _ _⟩
    case round =>
      obtain ⟨i, hi, rfl, heq, hb⟩ := hrel
      by_cases hlt : i < l.length
      · obtain ⟨⟨r1, r2⟩, ad, rfl, h2, h3, h4⟩ := (hA.below hb).2 i hlt
        obtain ⟨⟨s1, s2⟩, ad', rfl, k2, k3, k4⟩ := (hB.below hb).2 i (by omega)
        by_cases hq : l[i] = m[i]
        · have h5 : (l[i].1 == m[i].1) = true := by rw [hq]; simp
          have h6 : (l[i].2 == m[i].2) = true := by rw [hq]; simp
          have HQ := Lib.hid hq
          clear hq
          go_wp2_with fail
          go_quiet (fail)
          go_wp2_with fail
          go_roundw
          case rel =>
            refine ⟨i + 1, by omega, by go_num, ?_, below_drewN hb _⟩
            show _ = _
            rw [List.take_succ_eq_append_getElem hlt, List.take_succ_eq_append_getElem (by omega), heq.out, HQ.out]
          case measure => simp [intOf]; omega
        · have he : decide (l = m) = false := by
            apply decide_eq_false
            rintro rfl
            exact hq rfl
          rw [HR.out] at he
          have HE := Lib.hid he
          clear he
          by_cases hq1 : l[i].1 = m[i].1
          · have h5 : (l[i].1 == m[i].1) = true := by simpa using hq1
            have h6 : (l[i].2 == m[i].2) = false := by
              rw [beq_eq_false_iff_ne]
              exact fun h => hq (Prod.ext hq1 h)
            clear hq hq1
            go_wp2_with fail
            go_quiet (fail)
            go_wp2_with fail
            go_ret
            exact ⟨ret_bool HE.out.symm, below_drewN hb _⟩
          · have h5 : (l[i].1 == m[i].1) = false := by rw [beq_eq_false_iff_ne]; exact hq1
            clear hq hq1
            go_wp2_with fail
            go_quiet (fail)
            go_wp2_with fail
            go_ret
            exact ⟨ret_bool HE.out.symm, below_drewN hb _⟩
      · obtain rfl : i = l.length := by omega
        have he : decide (l = m) = true := by
          have h := heq.out
          rw [List.take_length, hlen, List.take_length] at h
          exact decide_eq_true h
        rw [HR.out] at he
        have HE := Lib.hid he
        clear he
        go_wp2_with fail
        go_ret
        exact ⟨ret_bool HE.out.symm, hb⟩
  · have he : decide (l = m) = false := by
      apply decide_eq_false; intro e; exact hlen (by rw [e])
    rw [he]
    go_enter Tryd.func13, Tryd.ntmps13
    go_wp2_with fail
    go_ret
    exact ⟨rfl, Below.refl _ _⟩
end Go.Proofs.YtdbifbgjbfnfmaaDoor
/-
  Layer 7 (index): slices of slices of labels; the document's index in memory; New, Len and Find.
-/
namespace Go.Proofs.YtdbifbgjbfnfmaaDoor
open Go.RowKit Go.Deep
set_option linter.unusedVariables false
set_option linter.unusedSimpArgs false

/-- A slice of slices of labels that was there. -/
def LLAt (w : World) (A : Option Addr) (len cap : Nat) (L : List (List Lab)) : Prop :=
  len = L.length ∧ len ≤ cap ∧ ∀ i (h : i < L.length), ∃ ad Ai ci, A = some ad ∧ (ad.add i).block < w.heap.size ∧ w.cell? (ad.add i) = some (.slice Ai L[i].length ci) ∧ LAt w Ai L[i].length L[i] ∧ L[i].length ≤ maxLen
theorem LLAt.below {w w' : World} {A : Option Addr} {len cap : Nat} {L : List (List Lab)} (h : LLAt w A len cap L) (hb : Below w.heap.size w w') : LLAt w' A len cap L :=
  ⟨h.1, h.2.1, fun i hi => by
    obtain ⟨ad, Ai, ci, rfl, h2, h3, h4, h5⟩ := h.2.2 i hi
    exact ⟨ad, Ai, ci, rfl, Nat.lt_of_lt_of_le h2 hb.size, (hb.cell (p := ad.add i) h2).trans h3, h4.below hb, h5⟩⟩
/-- A row of labels of the call's own, in one of the blocks F. -/
def OwnL (F : List Nat) (w : World) (v : Value) (l : List Lab) : Prop :=
  ∃ A c, v = .slice A l.length c ∧ w.ownsRow 0 60 2 (.slice A l.length c) l.length (labC l) ∧ ∀ k, (Value.slice A l.length c).ownBlock = some k → k ∈ F
theorem OwnL.keeps {F G : List Nat} {w w' : World} {v : Value} {l : List Lab} (h : OwnL F w v l) (hk : Keeps G w w') (hd : ∀ k ∈ F, k ∉ G) : OwnL F w' v l := by
  obtain ⟨A, c, rfl, h1, h2⟩ := h
  exact ⟨A, c, rfl, hk.row h1 (fun k hk => hd k (h2 k hk)), h2⟩
theorem OwnL.more {F G : List Nat} {w : World} {v : Value} {l : List Lab} (h : OwnL F w v l) (hd : ∀ k ∈ F, k ∈ G) : OwnL G w v l := by
  obtain ⟨A, c, rfl, h1, h2⟩ := h
  exact ⟨A, c, rfl, h1, fun k hk => hd k (h2 k hk)⟩
/-- The document's index: p holds its slice; its blocks are F. -/
structure RefX (F : List Nat) (p : Nat) (X : Ix) (w : World) : Prop where
  good : Good X
  lt : ∀ k ∈ F, k < w.heap.size
  pF : p ∈ F
  ex : ∃ A cap vs, w.heap[p]? = some (.cells #[.slice A X.length cap] 64 (0, 0)) ∧ w.ownsRow 0 23 1 (.slice A X.length cap) X.length vs ∧
    (∀ k, (Value.slice A X.length cap).ownBlock = some k → k ∈ F) ∧ vs.length = X.length ∧ ∀ (j : Nat) v l, vs[j]? = some v → X[j]? = some l → OwnL F w v l
theorem RefX.keeps {F G : List Nat} {p : Nat} {X : Ix} {w w' : World} (h : RefX F p X w) (hk : Keeps G w w') (hd : ∀ k ∈ F, k ∉ G) : RefX F p X w' := by
  obtain ⟨A, cap, vs, h1, h2, h3, h4, h5⟩ := h.ex
  exact ⟨h.good, fun k hF => Nat.lt_of_lt_of_le (h.lt k hF) hk.size, h.pF, A, cap, vs, hk.block h1 (hd p h.pF), hk.row h2 (fun k hk => hd k (h3 k hk)), h3, h4, fun j v l hv hl => (h5 j v l hv hl).keeps hk hd⟩
theorem RefX.below {F : List Nat} {p : Nat} {X : Ix} {w w' : World} (h : RefX F p X w) (hb : Below w.heap.size w w') : RefX F p X w' := h.keeps (G := []) (Keeps.below hb) (by simp)
theorem labs_small {l : List Lab} (h : okL l = true) : l.length ≤ 8 ∧ ∀ x ∈ l, x.1.length ≤ 9223372036854775807 ∧ x.2.length ≤ 9223372036854775807 :=
  ⟨okL_len h, fun x hx => by have := okL_32 h x hx; omega⟩
/-- Its cells, as others read them. -/
theorem RefX.at {F : List Nat} {p : Nat} {X : Ix} {w : World} (h : RefX F p X w) : ∃ A cap, w.heap[p]? = some (.cells #[.slice A X.length cap] 64 (0, 0)) ∧ LLAt w A X.length cap X := by
  obtain ⟨A, cap, vs, h1, h2, h3, h4, h5⟩ := h.ex
  refine ⟨A, cap, h1, rfl, ?_, fun i hi => ?_⟩
  · rcases h2.2 with ⟨_, h0⟩ | ⟨g, c, cur, e, hg, hb, hc, _⟩
    · omega
    · injection e with e1 e2 e3
      omega
  · rcases h2.2 with ⟨e, h0⟩ | ⟨g, c, cur, e, hg, hb, hc, _⟩
    · omega
    · injection e with e1 e2 e3
      subst e1
      have hv : i < vs.length := by omega
      obtain ⟨Ai, ci, ev, hR, _⟩ := h5 i vs[i] X[i] (List.getElem?_eq_getElem hv) (List.getElem?_eq_getElem hi)
      have hcell := h2.cells (g := g) rfl i vs[i] (List.getElem?_eq_getElem hv)
      rw [ev] at hcell
      have hs := labs_small (h.good.ok _ (List.getElem_mem hi))
      refine ⟨_, Ai, ci, rfl, ?_, hcell, own_lat (v := .slice Ai X[i].length ci) hR rfl hs.2, ?_⟩
      · have : ((⟨g, 0, none⟩ : Addr).add i).block = g := by unfold Addr.add; split <;> rfl
        rw [this]; exact lt_of_block hb
      · have := hs.1; unfold maxLen; omega
theorem refNew_c (w : World) : Calls Tryd.prog 32 #[] w fun e w' => (e = .returned (.pointer (some ⟨w.heap.size, 0, none⟩)) ∧ RefX [w.heap.size] w.heap.size [] w') ∧ Below w.heap.size w w' := by
  have hR : RefX [w.heap.size] w.heap.size [] (w.alloc (.cells #[.slice none 0 0] 64)) :=
    ⟨Good.nil, fun k hk => by simp at hk; subst hk; simp, by simp, none, 0, [], heap_alloc_new w _, ⟨rfl, .inl ⟨rfl, rfl⟩⟩, fun k hk => by simp [Value.ownBlock] at hk, rfl, fun j v l hv => by simp at hv⟩
  have HR := Lib.hid hR
  clear hR
  go_enter Tryd.func32, Tryd.ntmps32
  go_wp2_with fail
  go_ret
  exact ⟨⟨rfl, HR.out⟩, (Below.refl _ _).alloc (Nat.le_refl _) _⟩
theorem refLen_c (F : List Nat) (p : Nat) (X : Ix) (w : World) (h : RefX F p X w) : Calls Tryd.prog 12 #[.pointer (some ⟨p, 0, none⟩)] w fun e w' => e = .returned (.int .i64 X.length) ∧ w = w' := by
  obtain ⟨A, cap, h1, h2⟩ := h.at
  have hc := blk_cell h1 0
  simp only [List.getElem?_toArray, List.getElem?_cons_zero] at hc
  clear h2
  go_enter Tryd.func12, Tryd.ntmps12
  go_wp2_with fail
  go_ret
  exact ⟨rfl, rfl⟩
set_option maxHeartbeats 400000 in
theorem refFind_c (F : List Nat) (p : Nat) (X : Ix) (A : Option Addr) (len cap : Nat) (l : List Lab) (w : World) (h : RefX F p X w) (hA : LAt w A len l) (hl : l.length ≤ 100000) :
    Calls Tryd.prog 18 #[.pointer (some ⟨p, 0, none⟩), .slice A len cap] w fun e w' => e = .returned (.tuple #[.int .i64 (idF X l), .bool (isF X l)]) ∧ Below w.heap.size w w' := by
  obtain ⟨B, c, h1, h2⟩ := h.at
  have hc := blk_cell h1 0
  simp only [List.getElem?_toArray, List.getElem?_cons_zero] at hc
  have hX := h.good.few
  have hok := Lib.hid h.good.ok
  have hle := hA.1
  subst hle
  obtain ⟨I, hI⟩ : ∃ I, idF X l = I := ⟨_, rfl⟩
  obtain ⟨S, hS⟩ : ∃ I, isF X l = I := ⟨_, rfl⟩
  rw [hI, hS]
  have HI := Lib.hid hI
  have HS := Lib.hid hS
  have HP := Lib.hid (lt_of_block h1)
  have HC := Lib.hid (fun (W : World) (hW : Below w.heap.size w W) => (hW.cell (p := ⟨p, 0, none⟩) (lt_of_block h1)).trans hc)
  clear hI hS h1 hc h
  go_enter Tryd.func18, Tryd.ntmps18
  go_wp2_with fail
  go_loopw [6] (fun c wr => ∃ i : Nat, i ≤ X.length ∧ c = .int .i64 i ∧ Hid (l ∉ X.take i) ∧ Below w.heap.size w wr) (fun c _ => X.length - (intOf c).toNat)
  case atStart => exact ⟨0, Nat.zero_le _, rfl, (by simp : l ∉ X.take 0), Below.refl _ _⟩
  case round =>
    obtain ⟨i, hi, rfl, HN, hb⟩ := hrel
    have hbs := hb.size
    have hc := HC.out _ hb
    by_cases hlt : i < X.length
    · obtain ⟨ad, Ai, ci, rfl, k2, k3, k4, k5⟩ := h2.2.2 i hlt
      have k3 := (hb.cell (p := ad.add i) k2).trans k3
      have hs := labs_small (hok.out _ (List.getElem_mem hlt))
      have cs := refSame_c Ai A X[i].length l.length ci cap X[i] l wr (by omega) hl (k4.below hb) (hA.below hb)
      by_cases hq : X[i] = l
      · rw [decide_eq_true hq] at cs
        have e1 : I = i := by rw [← HI.out]; unfold idF; rw [findX_at hlt hq HN.out]
        have e2 : S = true := by rw [← HS.out]; unfold isF; exact decide_eq_true (hq ▸ List.getElem_mem hlt)
        subst e1 e2
        have CS := Lib.hid cs
        clear cs hq hs k4 k5
        go_wp2_with (first | (go_at_call 13; refine CS.out.mono ?_; rintro e w1 ⟨rfl, hb1⟩; have hb2 := below2 hb hb1 hbs; dsimp only))
        go_ret2
        exact ⟨rfl, hb2⟩
      · rw [decide_eq_false hq] at cs
        have HS2 : Hid (l ∉ X.take (i + 1)) := by
          show l ∉ _
          rw [List.take_succ_eq_append_getElem hlt, List.mem_append, not_or]
          exact ⟨HN.out, by simpa using fun h => hq h.symm⟩
        have CS := Lib.hid cs
        clear cs hq hs k4 k5
        go_wp2_with (first | (go_at_call 13; refine CS.out.mono ?_; rintro e w1 ⟨rfl, hb1⟩; have hb2 := below2 hb hb1 hbs; dsimp only))
        go_roundw
        case rel => exact ⟨i + 1, by omega, by go_num, HS2.out, hb2⟩
        case measure => simp [intOf]; omega
    · obtain rfl : i = X.length := by omega
      have hn := HN.out
      rw [List.take_length] at hn
      have e1 : I = -1 := by rw [← HI.out]; unfold idF; rw [findX_none.2 hn]
      have e2 : S = false := by rw [← HS.out]; unfold isF; exact decide_eq_false hn
      subst e1 e2
      clear hn
      go_wp2_with fail
      go_ret2
      exact ⟨rfl, hb⟩
end Go.Proofs.YtdbifbgjbfnfmaaDoor
/-
  Layer 4 (label): names: what the program's Name, and the document's own, return; all that was in memory stays.
-/
namespace Go.Proofs.YtdbifbgjbfnfmaaDoor
open Go.RowKit Go.Deep
attribute [local go_sem] str_size str_append str_toList str_get str_extract
set_option linter.unusedVariables false
set_option linter.unusedSimpArgs false
theorem lower_c (r : Int) (w : World) (b : Bool) (hb : decide (97 ≤ r ∧ r ≤ 122) = b) : Calls Tryd.prog 88 #[.int .i32 r] w fun e w' => e = .returned (.bool b) ∧ w = w' := by
  by_cases h1 : 97 ≤ r
  · by_cases h2 : r ≤ 122
    · rw [show decide (97 ≤ r ∧ r ≤ 122) = true by simp [h1, h2]] at hb
      subst hb
      go_enter Tryd.func88, Tryd.ntmps88
      go_wp2
      go_ret
      exact ⟨rfl, rfl⟩
    · rw [show decide (97 ≤ r ∧ r ≤ 122) = false by simp [h2]] at hb
      subst hb
      go_enter Tryd.func88, Tryd.ntmps88
      go_wp2
      go_ret
      exact ⟨rfl, rfl⟩
  · rw [show decide (97 ≤ r ∧ r ≤ 122) = false by simp [h1]] at hb
    subst hb
    go_enter Tryd.func88, Tryd.ntmps88
    go_wp2
    go_ret
    exact ⟨rfl, rfl⟩
theorem digit_c (r : Int) (w : World) (b : Bool) (hb : decide (48 ≤ r ∧ r ≤ 57) = b) : Calls Tryd.prog 89 #[.int .i32 r] w fun e w' => e = .returned (.bool b) ∧ w = w' := by
  by_cases h1 : 48 ≤ r
  · by_cases h2 : r ≤ 57
    · rw [show decide (48 ≤ r ∧ r ≤ 57) = true by simp [h1, h2]] at hb
      subst hb
      go_enter Tryd.func89, Tryd.ntmps89
      go_wp2
      go_ret
      exact ⟨rfl, rfl⟩
    · rw [show decide (48 ≤ r ∧ r ≤ 57) = false by simp [h2]] at hb
      subst hb
      go_enter Tryd.func89, Tryd.ntmps89
      go_wp2
      go_ret
      exact ⟨rfl, rfl⟩
  · rw [show decide (48 ≤ r ∧ r ≤ 57) = false by simp [h1]] at hb
    subst hb
    go_enter Tryd.func89, Tryd.ntmps89
    go_wp2
    go_ret
    exact ⟨rfl, rfl⟩
set_option maxHeartbeats 400000 in
theorem name_c (s : List UInt8) (w : World) (hs : s.length ≤ 1099511627776) : Calls Tryd.prog 59 #[.string (str s)] w fun e w' => e = .returned (.bool (nameL s)) ∧ Below w.heap.size w w' := by
  by_cases h0 : s.length = 0
  · obtain rfl : s = [] := List.eq_nil_of_length_eq_zero h0
    rw [show nameL [] = false from rfl]
    go_enter Tryd.func59, Tryd.ntmps59
    go_wp2
    go_ret
    exact ⟨rfl, Below.refl _ _⟩
  have h00 : ((s.length : Int) == 0) = false := by rw [beq_eq_false_iff_ne]; omega
  by_cases h16 : 16 < (s.length : Int)
  · rw [nameL_long (by omega)]
    go_enter Tryd.func59, Tryd.ntmps59
    go_wp2
    go_ret
    exact ⟨rfl, Below.refl _ _⟩
  obtain ⟨R, hR⟩ : ∃ R, nameL s = R := ⟨_, rfl⟩
  rw [hR]
  have HR := Lib.hid hR
  clear hR
  go_enter Tryd.func59, Tryd.ntmps59
  go_wp2_with fail
  go_loopw [] (fun wr => ∃ pos : Nat, pos ≤ s.length ∧ wr = w.iter (str s) pos ∧ Hid (0 < pos → ∃ h : 0 < s.length, lowC s[0] = true) ∧ Hid (∀ i (h : i < s.length), i < pos → nameC s[i] = true)) (fun wr => s.length - wr.iterPos w.heap.size)
  case atStart => exact ⟨0, Nat.zero_le _, rfl, fun h => by omega, fun i h h' => by omega⟩
  case round =>
    obtain ⟨pos, hp, rfl, HL, HA⟩ := hrel
    have hbel : ∀ p, Below w.heap.size w (w.iter (str s) p) := fun p => (Below.refl _ w).alloc (Nat.le_refl _) _
    by_cases hlt : pos < s.length
    · have hlt' : pos < (str s).size := by rw [str_size]; exact hlt
      have hget := str_get s pos hlt'
      have hmeas : ∀ k, (w.iter (str s) k).iterPos w.heap.size = k := fun k => World.iterPos_iter _ _ _
      by_cases hx : (s[pos]'hlt).toNat < 128
      · have hnx := fun ty => run_next_ascii (P := Tryd.prog) w (str s) pos ty hlt' (by rw [hget]; exact hx)
        have Hbad := Lib.hid (fun h => nameL_bad hlt h)
        have Hbad0 := Lib.hid (fun (hc0 : lowC (s[0]'(by omega)) = false) => nameL_bad0 hc0)
        obtain ⟨x, hxe⟩ : ∃ x, s[pos]'hlt = x := ⟨_, rfl⟩
        have HXE := Lib.hid hxe
        rw [hxe] at hx
        have hxe2 : ((str s)[pos]'hlt') = x := hget.trans hxe
        simp only [hxe2] at hnx
        clear hget hxe hxe2
        have hl := fun W => lower_c (x.toNat : Int) W
        have hd := fun W => digit_c (x.toNat : Int) W
        have hstep : lowC x = true ∨ (0 < pos ∧ nameC x = true) → Hid (0 < pos + 1 → ∃ h : 0 < s.length, lowC s[0] = true) ∧ Hid (∀ i (h : i < s.length), i < pos + 1 → nameC s[i] = true) := by
          intro hh
          refine ⟨fun _ => ?_, fun i h h' => ?_⟩
          · by_cases hz : 0 < pos
            · exact HL.out hz
            · refine ⟨by omega, ?_⟩
              have e : pos = 0 := by omega
              subst e
              rcases hh with hh | hh
              · rw [HXE.out]; exact hh
              · omega
          · by_cases he : i = pos
            · subst he
              rw [HXE.out]
              rcases hh with hh | hh
              · exact lowC_nameC hh
              · exact hh.2
            · exact HA.out i h (by omega)
        by_cases l1 : 97 ≤ x.toNat ∧ x.toNat ≤ 122
        · have hst := hstep (.inl (by unfold lowC; simpa using l1))
          have HST := Lib.hid hst
          have hl' := fun W => hl W true (by simp; omega)
          clear hl hstep hst
          go_wp2_with (first | (go_at_call 88; refine (hl' _).mono ?_; rintro e w1 ⟨rfl, rfl⟩))
          go_roundw
          case rel => exact ⟨pos + 1, by omega, rfl, HST.out⟩
          case measure => rw [hmeas, hmeas]; omega
        · have hl' := fun W => hl W false (by simp; omega)
          have hlow : lowC x = false := by unfold lowC; simp; omega
          by_cases hz : pos = 0
          · subst hz
            have e : nameL s = false := Hbad0.out (by rw [HXE.out]; exact hlow)
            rw [HR.out] at e
            subst e
            clear hl hd hstep hlow
            go_wp2_with (first | (go_at_call 88; refine (hl' _).mono ?_; rintro e w1 ⟨rfl, rfl⟩))
            go_ret
            exact ⟨rfl, hbel _⟩
          · have hz' : ((pos : Int) == 0) = false := by rw [beq_eq_false_iff_ne]; omega
            by_cases d1 : 48 ≤ x.toNat ∧ x.toNat ≤ 57
            · have hst := hstep (.inr ⟨by omega, by unfold nameC; simp; omega⟩)
              have HST := Lib.hid hst
              have hd' := fun W => hd W true (by simp; omega)
              clear hl hd hstep hst hlow
              go_wp2_with (first | (go_at_call 88; refine (hl' _).mono ?_; rintro e w1 ⟨rfl, rfl⟩) | (go_at_call 89; refine (hd' _).mono ?_; rintro e w1 ⟨rfl, rfl⟩))
              go_roundw
              case rel => exact ⟨pos + 1, by omega, rfl, HST.out⟩
              case measure => rw [hmeas, hmeas]; omega
            · have hd' := fun W => hd W false (by simp; omega)
              by_cases u1 : x.toNat = 95
              · have u2 : (((x.toNat : Nat) : Int) != 95) = false := by simp [bne, u1]
                have hst := hstep (.inr ⟨by omega, by unfold nameC; simp; omega⟩)
                have HST := Lib.hid hst
                clear hl hd hstep hst hlow
                go_wp2_with (first | (go_at_call 88; refine (lower_c 95 _ false (by decide)).mono ?_; rintro e w1 ⟨rfl, rfl⟩) | (go_at_call 89; refine (digit_c 95 _ false (by decide)).mono ?_; rintro e w1 ⟨rfl, rfl⟩))
                go_roundw
                case rel => exact ⟨pos + 1, by omega, rfl, HST.out⟩
                case measure => rw [hmeas, hmeas]; omega
              · have u2 : (((x.toNat : Nat) : Int) != 95) = true := by
                  have : (((x.toNat : Nat) : Int) == 95) = false := by rw [beq_eq_false_iff_ne]; omega
                  simp [bne, this]
                have e : nameL s = false := Hbad.out (by rw [HXE.out]; unfold nameC; simp; omega)
                rw [HR.out] at e
                subst e
                clear hl hd hstep hlow
                go_wp2_with (first | (go_at_call 88; refine (hl' _).mono ?_; rintro e w1 ⟨rfl, rfl⟩) | (go_at_call 89; refine (hd' _).mono ?_; rintro e w1 ⟨rfl, rfl⟩))
                go_ret
                exact ⟨rfl, hbel _⟩
      · have hnx := fun ty => run_next_any (P := Tryd.prog) w (str s) pos ty hlt'
        obtain ⟨q1, q2⟩ := decode_high (str s) pos hlt' (by rw [hget]; omega)
        have q3 := decode_le (str s) pos
        have e : nameL s = false := nameL_bad hlt (by unfold nameC; simp; omega)
        have e0 : pos = 0 → nameL s = false := fun _ => e
        rw [HR.out] at e
        subst e
        obtain ⟨r, hr⟩ : ∃ r, (Utf8.decode (str s) pos).1 = r := ⟨_, rfl⟩
        obtain ⟨k, hk⟩ : ∃ k, (Utf8.decode (str s) pos).2 = k := ⟨_, rfl⟩
        rw [hr] at hnx q1 q3
        rw [hk] at hnx q2
        have hl' := fun W => lower_c (r : Int) W false (by simp; omega)
        have hd' := fun W => digit_c (r : Int) W false (by simp; omega)
        have u2 : ((r : Int) != 95) = true := by
          have : ((r : Int) == 95) = false := by rw [beq_eq_false_iff_ne]; omega
          simp [bne, this]
        clear hget hx hr hk e0
        by_cases hz : pos = 0
        · subst hz
          go_wp2_with (first | (go_at_call 88; refine (hl' _).mono ?_; rintro e w1 ⟨rfl, rfl⟩) | (go_at_call 89; refine (hd' _).mono ?_; rintro e w1 ⟨rfl, rfl⟩))
          go_ret
          exact ⟨rfl, hbel _⟩
        · have hz' : ((pos : Int) == 0) = false := by rw [beq_eq_false_iff_ne]; omega
          go_wp2_with (first | (go_at_call 88; refine (hl' _).mono ?_; rintro e w1 ⟨rfl, rfl⟩) | (go_at_call 89; refine (hd' _).mono ?_; rintro e w1 ⟨rfl, rfl⟩))
          go_ret
          exact ⟨rfl, hbel _⟩
    · obtain rfl : pos = s.length := by omega
      have hnx := fun ty => run_next_end (P := Tryd.prog) w (str s) s.length ty (by rw [str_size]; omega)
      have e : nameL s = true := nameL_good (by omega) (by omega) (HL.out (by omega)).2 (fun i h => HA.out i h h)
      rw [HR.out] at e
      subst e
      go_wp2_with fail
      go_ret
      exact ⟨rfl, hbel _⟩
theorem refName_c (s : List UInt8) (w : World) (hs : s.length ≤ 1099511627776) : Calls Tryd.prog 66 #[.string (str s)] w fun e w' => e = .returned (.bool (nameL s)) ∧ w = w' := by
  by_cases h0 : s.length = 0
  · obtain rfl : s = [] := List.eq_nil_of_length_eq_zero h0
    rw [show nameL [] = false from rfl]
    go_enter Tryd.func66, Tryd.ntmps66
    go_wp2
    go_ret
    exact ⟨rfl, rfl⟩
  have h00 : ¬ ((s.length : Int) < 1) := by omega
  by_cases h16 : 16 < (s.length : Int)
  · rw [nameL_long (by omega)]
    go_enter Tryd.func66, Tryd.ntmps66
    go_wp2
    go_ret
    exact ⟨rfl, rfl⟩
  have hp0 : 0 < s.length := by omega
  have Hbad0 := Lib.hid (fun (hc0 : lowC (s[0]'hp0) = false) => nameL_bad0 hc0)
  have Hbad := Lib.hid (fun i (h : i < s.length) (hc : nameC (s[i]'h) = false) => nameL_bad h hc)
  obtain ⟨R, hR⟩ : ∃ R, nameL s = R := ⟨_, rfl⟩
  rw [hR]
  have HR := Lib.hid hR
  clear hR
  obtain ⟨x0, hx0⟩ : ∃ x, s[0]'hp0 = x := ⟨_, rfl⟩
  have HX0 := Lib.hid hx0
  have hx0l : x0.toNat < 256 := x0.toNat_lt
  by_cases l1 : x0.toNat < 97
  · have t1 : (x0.toNat : Int) < 97 := by omega
    have e : nameL s = false := Hbad0.out (by rw [HX0.out]; unfold lowC; simp; omega)
    rw [HR.out] at e
    subst e
    go_enter Tryd.func66, Tryd.ntmps66
    go_wp2
    go_ret
    exact ⟨rfl, rfl⟩
  have t1 : ¬ (x0.toNat : Int) < 97 := by omega
  by_cases l2 : 122 < x0.toNat
  · have t2 : 122 < (x0.toNat : Int) := by omega
    have e : nameL s = false := Hbad0.out (by rw [HX0.out]; unfold lowC; simp; omega)
    rw [HR.out] at e
    subst e
    go_enter Tryd.func66, Tryd.ntmps66
    go_wp2
    go_ret
    exact ⟨rfl, rfl⟩
  have t2 : ¬ 122 < (x0.toNat : Int) := by omega
  have HL : Hid (lowC (s[0]'hp0) = true) := by show _ = _; rw [HX0.out]; unfold lowC; simp; omega
  go_enter Tryd.func66, Tryd.ntmps66
  go_wp2_with fail
  go_loopw [3] (fun c wr => ∃ pos : Nat, pos ≤ s.length ∧ c = .int .i64 pos ∧ Hid (∀ i (h : i < s.length), i < pos → nameC (s[i]'h) = true) ∧ w = wr) (fun c _ => s.length - (intOf c).toNat)
  case atStart => exact ⟨0, Nat.zero_le _, rfl, fun i h h' => by omega, rfl⟩
  case round =>
    obtain ⟨pos, hp, rfl, HA, rfl⟩ := hrel
    clear t1 t2 l1 l2
    by_cases hlt : pos < s.length
    · obtain ⟨x, hxe⟩ : ∃ x, s[pos]'hlt = x := ⟨_, rfl⟩
      have HXE := Lib.hid hxe
      have hxl : x.toNat < 256 := x.toNat_lt
      have hstep : nameC x = true → Hid (∀ i (h : i < s.length), i < pos + 1 → nameC (s[i]'h) = true) := by
        intro hh i h h'
        by_cases he : i = pos
        · subst he
          rw [HXE.out]; exact hh
        · exact HA.out i h (by omega)
      have HS := Lib.hid hstep
      have HB := Lib.hid (fun h => Hbad.out pos hlt h)
      clear hstep hx0
      by_cases a1 : x.toNat < 97
      · have t1 : (x.toNat : Int) < 97 := by omega
        by_cases a2 : x.toNat < 48
        · have t2 : (x.toNat : Int) < 48 := by omega
          have t3 : (((x.toNat : Nat) : Int) != 95) = true := by
            have : (((x.toNat : Nat) : Int) == 95) = false := by rw [beq_eq_false_iff_ne]; omega
            simp [bne, this]
          have e : nameL s = false := HB.out (by rw [HXE.out]; unfold nameC; simp; omega)
          rw [HR.out] at e
          subst e
          go_wp2_with fail
          go_ret
          exact ⟨rfl, rfl⟩
        · have t2 : ¬ (x.toNat : Int) < 48 := by omega
          by_cases a3 : 57 < x.toNat
          · have t3 : 57 < (x.toNat : Int) := by omega
            by_cases a4 : x.toNat = 95
            · have h := HS.out (by unfold nameC; simp; omega)
              have HH := Lib.hid h
              have t4 : (((x.toNat : Nat) : Int) != 95) = false := by simp [bne, a4]
              clear h
              go_wp2_with fail
              go_roundw
              case rel => exact ⟨pos + 1, by omega, by go_num, HH.out, by first | rfl | trivial⟩
              case measure => simp [intOf]; omega
            · have t4 : (((x.toNat : Nat) : Int) != 95) = true := by
                have : (((x.toNat : Nat) : Int) == 95) = false := by rw [beq_eq_false_iff_ne]; omega
                simp [bne, this]
              have e : nameL s = false := HB.out (by rw [HXE.out]; unfold nameC; simp; omega)
              rw [HR.out] at e
              subst e
              go_wp2_with fail
              go_ret
              exact ⟨rfl, rfl⟩
          · have t3 : ¬ 57 < (x.toNat : Int) := by omega
            have h := HS.out (by unfold nameC; simp; omega)
            have HH := Lib.hid h
            clear h
            go_wp2_with fail
            go_roundw
            case rel => exact ⟨pos + 1, by omega, by go_num, HH.out, by first | rfl | trivial⟩
            case measure => simp [intOf]; omega
      · have t1 : ¬ (x.toNat : Int) < 97 := by omega
        by_cases a2 : 122 < x.toNat
        · have t2 : 122 < (x.toNat : Int) := by omega
          have t3 : ¬ (x.toNat : Int) < 48 := by omega
          have t4 : 57 < (x.toNat : Int) := by omega
          have t5 : (((x.toNat : Nat) : Int) != 95) = true := by
            have : (((x.toNat : Nat) : Int) == 95) = false := by rw [beq_eq_false_iff_ne]; omega
            simp [bne, this]
          have e : nameL s = false := HB.out (by rw [HXE.out]; unfold nameC; simp; omega)
          rw [HR.out] at e
          subst e
          go_wp2_with fail
          go_ret
          exact ⟨rfl, rfl⟩
        · have t2 : ¬ 122 < (x.toNat : Int) := by omega
          have h := HS.out (by unfold nameC; simp; omega)
          have HH := Lib.hid h
          clear h
          go_wp2_with fail
          go_roundw
          case rel => exact ⟨pos + 1, by omega, by go_num, HH.out, by first | rfl | trivial⟩
          case measure => simp [intOf]; omega
    · obtain rfl : pos = s.length := by omega
      have e : nameL s = true := nameL_good hp0 (by omega) HL.out (fun i h => HA.out i h h)
      rw [HR.out] at e
      subst e
      go_wp2_with fail
      go_ret
      exact ⟨rfl, rfl⟩
end Go.Proofs.YtdbifbgjbfnfmaaDoor
