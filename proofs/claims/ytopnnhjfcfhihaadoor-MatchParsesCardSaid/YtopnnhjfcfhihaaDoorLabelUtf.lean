/-
  Layer 4 (label): which texts are of runes: the document's answer, plain; how wide a rune is. No program is named.
-/
import Derived.Test.YtopnnhjfcfhihaaDoorLabelPure
import Derived.Lib.TrimUEq
namespace Go.Proofs.YtopnnhjfcfhihaaDoor
open Go.RowKit Go.Deep

/-- How many bytes the rune has with which s begins; 0: none does. -/
def wideL (s : List UInt8) : Nat := if (Lib.decodeL s).1 = 65533 ∧ (Lib.decodeL s).2 = 1 then 0 else (Lib.decodeL s).2
def byt (s : List UInt8) (i : Nat) : Nat := (s.getD i 0).toNat
theorem byt_lt (s : List UInt8) (i : Nat) : byt s i < 256 := (s.getD i 0).toNat_lt
theorem byt_at {s : List UInt8} {i : Nat} (h : i < s.length) : byt s i = (s[i]'h).toNat := by simp [byt, List.getD, h]
theorem wideL_def (s : List UInt8) : wideL s = if (Lib.decodeN s.length (byt s 0) (byt s 1) (byt s 2) (byt s 3)).1 = 65533 ∧ (Lib.decodeN s.length (byt s 0) (byt s 1) (byt s 2) (byt s 3)).2 = 1 then 0 else (Lib.decodeN s.length (byt s 0) (byt s 1) (byt s 2) (byt s 3)).2 := by
  unfold wideL; rw [Lib.decodeL_N]; rfl
theorem wideL_err {s : List UInt8} (e : Lib.decodeN s.length (byt s 0) (byt s 1) (byt s 2) (byt s 3) = (65533, 1)) : wideL s = 0 := by
  rw [wideL_def, e]; simp
theorem wideL_ok {s : List UInt8} {c k : Nat} (e : Lib.decodeN s.length (byt s 0) (byt s 1) (byt s 2) (byt s 3) = (c, k)) (hk : 2 ≤ k) : wideL s = k := by
  rw [wideL_def, e]; simp only; rw [if_neg (by omega)]
theorem decodeN_two {n b0 b1 b2 b3 : Nat} (h : 192 ≤ b0 ∧ b0 < 224) : Lib.decodeN n b0 b1 b2 b3 = if 1 < n ∧ b1 / 64 = 2 ∧ b0 % 32 * 64 + b1 % 64 ≥ 128 then (b0 % 32 * 64 + b1 % 64, 2) else (65533, 1) := by
  unfold Lib.decodeN
  rw [if_neg (by omega)]
  by_cases h1 : 1 < n ∧ b1 / 64 = 2
  · rw [if_pos ⟨by omega, h1⟩]
    by_cases h2 : b0 % 32 * 64 + b1 % 64 ≥ 128
    · rw [if_pos h2, if_pos ⟨h1.1, h1.2, h2⟩]
    · rw [if_neg h2, if_neg (fun h => h2 h.2.2)]
  · rw [if_neg (fun h => h1 h.2), if_neg (fun h => by omega), if_neg (fun h => by omega), if_neg (fun h => h1 ⟨h.1, h.2.1⟩)]
theorem wide_one {s : List UInt8} (h : byt s 0 < 128) : wideL s = 1 := by
  rw [wideL_def]
  have e : Lib.decodeN s.length (byt s 0) (byt s 1) (byt s 2) (byt s 3) = (byt s 0, 1) := by unfold Lib.decodeN; rw [if_pos h]
  rw [e]
  simp only
  rw [if_neg (by omega)]
theorem wide_none {s : List UInt8} (h : (128 ≤ byt s 0 ∧ byt s 0 < 192) ∨ 248 ≤ byt s 0) : wideL s = 0 := by
  rw [wideL_def]
  have hb := byt_lt s 0
  have e : Lib.decodeN s.length (byt s 0) (byt s 1) (byt s 2) (byt s 3) = (65533, 1) := by
    unfold Lib.decodeN
    rw [if_neg (by omega), if_neg (fun h => by omega), if_neg (fun h => by omega), if_neg (fun h => by omega)]
  rw [e]
  simp
theorem wide_two {s : List UInt8} (h : 192 ≤ byt s 0 ∧ byt s 0 < 224) (r : Nat) (hr : r = (byt s 0 - 192) * 64 + byt s 1 - 128) (h1 : 128 ≤ byt s 1 ∧ byt s 1 < 192) (hl : 2 ≤ s.length) : wideL s = if r < 128 then 0 else 2 := by
  by_cases hq : r < 128
  · rw [if_pos hq]; exact wideL_err (by rw [decodeN_two h, if_neg (by omega)])
  · rw [if_neg hq]; exact wideL_ok (by rw [decodeN_two h, if_pos (by omega)]) (by omega)
theorem wide_two_bad {s : List UInt8} (h : 192 ≤ byt s 0 ∧ byt s 0 < 224) (hb : s.length < 2 ∨ byt s 1 < 128 ∨ 192 ≤ byt s 1) : wideL s = 0 := by
  have hl := byt_lt s 1
  exact wideL_err (by rw [decodeN_two h, if_neg (by omega)])
theorem decodeN_three {n b0 b1 b2 b3 : Nat} (h : 224 ≤ b0 ∧ b0 < 240) : Lib.decodeN n b0 b1 b2 b3 = if 2 < n ∧ b1 / 64 = 2 ∧ b2 / 64 = 2 ∧ (2048 ≤ b0 % 16 * 4096 + b1 % 64 * 64 + b2 % 64 ∧ (b0 % 16 * 4096 + b1 % 64 * 64 + b2 % 64 < 55296 ∨ 57344 ≤ b0 % 16 * 4096 + b1 % 64 * 64 + b2 % 64)) then (b0 % 16 * 4096 + b1 % 64 * 64 + b2 % 64, 3) else (65533, 1) := by
  unfold Lib.decodeN
  rw [if_neg (by omega), if_neg (fun h => by omega)]
  by_cases h1 : (1 < n ∧ b1 / 64 = 2) ∧ (2 < n ∧ b2 / 64 = 2)
  · rw [if_pos ⟨by omega, h1⟩]
    generalize hc : b0 % 16 * 4096 + b1 % 64 * 64 + b2 % 64 = c
    have : c < 65536 := by omega
    by_cases h2 : 2048 ≤ c ∧ (c < 55296 ∨ 57344 ≤ c)
    · rw [if_pos (by omega), if_pos ⟨h1.2.1, h1.1.2, h1.2.2, h2⟩]
    · rw [if_neg (by omega), if_neg (fun h => h2 h.2.2.2)]
  · rw [if_neg (fun h => h1 h.2), if_neg (fun h => by omega), if_neg (fun h => h1 ⟨⟨by omega, h.2.1⟩, h.1, h.2.2.1⟩)]
theorem wide_three {s : List UInt8} (h : 224 ≤ byt s 0 ∧ byt s 0 < 240) (r : Nat) (hr : r = ((byt s 0 - 224) * 64 + byt s 1 - 128) * 64 + byt s 2 - 128) (h1 : 128 ≤ byt s 1 ∧ byt s 1 < 192) (h2 : 128 ≤ byt s 2 ∧ byt s 2 < 192) (hl : 3 ≤ s.length) :
    wideL s = if r < 2048 ∨ (55296 ≤ r ∧ r < 57344) then 0 else 3 := by
  by_cases hq : r < 2048 ∨ (55296 ≤ r ∧ r < 57344)
  · rw [if_pos hq]; exact wideL_err (by rw [decodeN_three h, if_neg (by omega)])
  · rw [if_neg hq]; exact wideL_ok (by rw [decodeN_three h, if_pos (by omega)]) (by omega)
theorem wide_three_bad {s : List UInt8} (h : 224 ≤ byt s 0 ∧ byt s 0 < 240) (hb : s.length < 3 ∨ (byt s 1 < 128 ∨ 192 ≤ byt s 1) ∨ (byt s 2 < 128 ∨ 192 ≤ byt s 2)) : wideL s = 0 := by
  have hl := byt_lt s 1
  have hl2 := byt_lt s 2
  exact wideL_err (by rw [decodeN_three h, if_neg (by omega)])
theorem decodeN_four {n b0 b1 b2 b3 : Nat} (h : 240 ≤ b0 ∧ b0 < 248) : Lib.decodeN n b0 b1 b2 b3 = if 3 < n ∧ b1 / 64 = 2 ∧ b2 / 64 = 2 ∧ b3 / 64 = 2 ∧ (65536 ≤ b0 % 8 * 262144 + b1 % 64 * 4096 + b2 % 64 * 64 + b3 % 64 ∧ b0 % 8 * 262144 + b1 % 64 * 4096 + b2 % 64 * 64 + b3 % 64 ≤ 1114111) then (b0 % 8 * 262144 + b1 % 64 * 4096 + b2 % 64 * 64 + b3 % 64, 4) else (65533, 1) := by
  unfold Lib.decodeN
  rw [if_neg (by omega), if_neg (fun h => by omega), if_neg (fun h => by omega)]
  by_cases h1 : (1 < n ∧ b1 / 64 = 2) ∧ (2 < n ∧ b2 / 64 = 2) ∧ (3 < n ∧ b3 / 64 = 2)
  · rw [if_pos ⟨by omega, h1⟩]
    generalize hc : b0 % 8 * 262144 + b1 % 64 * 4096 + b2 % 64 * 64 + b3 % 64 = c
    by_cases h2 : 65536 ≤ c ∧ c ≤ 1114111
    · rw [if_pos (by omega), if_pos ⟨h1.2.2.1, h1.1.2, h1.2.1.2, h1.2.2.2, h2⟩]
    · rw [if_neg (by omega), if_neg (fun h => h2 h.2.2.2.2)]
  · rw [if_neg (fun h => h1 h.2), if_neg (fun h => h1 ⟨⟨by omega, h.2.1⟩, ⟨by omega, h.2.2.1⟩, h.1, h.2.2.2.1⟩)]
theorem wide_four {s : List UInt8} (h : 240 ≤ byt s 0 ∧ byt s 0 < 248) (r : Nat) (hr : r = (((byt s 0 - 240) * 64 + byt s 1 - 128) * 64 + byt s 2 - 128) * 64 + byt s 3 - 128) (h1 : 128 ≤ byt s 1 ∧ byt s 1 < 192) (h2 : 128 ≤ byt s 2 ∧ byt s 2 < 192) (h3 : 128 ≤ byt s 3 ∧ byt s 3 < 192) (hl : 4 ≤ s.length) :
    wideL s = if r < 65536 ∨ 1114111 < r then 0 else 4 := by
  by_cases hq : r < 65536 ∨ 1114111 < r
  · rw [if_pos hq]; exact wideL_err (by rw [decodeN_four h, if_neg (by omega)])
  · rw [if_neg hq]; exact wideL_ok (by rw [decodeN_four h, if_pos (by omega)]) (by omega)
theorem wide_four_bad {s : List UInt8} (h : 240 ≤ byt s 0 ∧ byt s 0 < 248) (hb : s.length < 4 ∨ (byt s 1 < 128 ∨ 192 ≤ byt s 1) ∨ (byt s 2 < 128 ∨ 192 ≤ byt s 2) ∨ (byt s 3 < 128 ∨ 192 ≤ byt s 3)) : wideL s = 0 := by
  have hl := byt_lt s 1
  have hl2 := byt_lt s 2
  have hl3 := byt_lt s 3
  exact wideL_err (by rw [decodeN_four h, if_neg (by omega)])
/-- Each rune is one: the document's way. -/
def utfL : Nat → List UInt8 → Bool
  | 0, _ => true
  | n + 1, s => if s = [] then true else if wideL s = 0 then false else utfL n (s.drop (wideL s))
def valueL (s : List UInt8) : Bool := decide (s.length ≤ 32) && utfL s.length s
theorem wide_le {s : List UInt8} (h : s ≠ []) : wideL s ≤ s.length := by
  have hp : 1 ≤ s.length := by cases s <;> simp_all
  have hb := byt_lt s 0
  by_cases c1 : byt s 0 < 128
  · rw [wide_one c1]; exact hp
  by_cases c2 : byt s 0 < 192
  · rw [wide_none (.inl ⟨by omega, c2⟩)]; omega
  by_cases c3 : byt s 0 < 224
  · have e := decodeN_two (n := s.length) (b1 := byt s 1) (b2 := byt s 2) (b3 := byt s 3) (b0 := byt s 0) ⟨by omega, c3⟩
    split at e
    · rename_i hh; rw [wideL_ok e (by omega)]; omega
    · rw [wideL_err e]; omega
  by_cases c4 : byt s 0 < 240
  · have e := decodeN_three (n := s.length) (b1 := byt s 1) (b2 := byt s 2) (b3 := byt s 3) (b0 := byt s 0) ⟨by omega, c4⟩
    split at e
    · rename_i hh; rw [wideL_ok e (by omega)]; omega
    · rw [wideL_err e]; omega
  by_cases c5 : byt s 0 < 248
  · have e := decodeN_four (n := s.length) (b1 := byt s 1) (b2 := byt s 2) (b3 := byt s 3) (b0 := byt s 0) ⟨by omega, c5⟩
    split at e
    · rename_i hh; rw [wideL_ok e (by omega)]; omega
    · rw [wideL_err e]; omega
  · rw [wide_none (.inr (by omega))]; omega
theorem utf_more : ∀ (n m : Nat) (s : List UInt8), s.length ≤ n → n ≤ m → utfL n s = utfL m s
  | 0, m, s, h, _ => by
    obtain rfl : s = [] := List.eq_nil_of_length_eq_zero (by omega)
    cases m <;> simp [utfL]
  | n + 1, 0, s, _, h => by omega
  | n + 1, m + 1, s, h, hm => by
    simp only [utfL]
    by_cases hs : s = []
    · simp [hs]
    · by_cases hw : wideL s = 0
      · simp [hs, hw]
      · rw [if_neg hs, if_neg hs, if_neg hw, if_neg hw]
        exact utf_more n m _ (by rw [List.length_drop]; omega) (by omega)
theorem utf_nil (n : Nat) : utfL n [] = true := by cases n <;> simp [utfL]
theorem utf_step {s : List UInt8} (h : s ≠ []) (hw : wideL s ≠ 0) : utfL s.length s = utfL (s.drop (wideL s)).length (s.drop (wideL s)) := by
  have hp : 1 ≤ s.length := by cases s <;> simp_all
  obtain ⟨n, hn⟩ : ∃ n, s.length = n + 1 := ⟨s.length - 1, by omega⟩
  rw [hn]
  simp only [utfL]
  rw [if_neg h, if_neg hw]
  exact (utf_more _ n _ (Nat.le_refl _) (by rw [List.length_drop]; omega)).symm
theorem utf_bad {s : List UInt8} (h : s ≠ []) (hw : wideL s = 0) : utfL s.length s = false := by
  have hp : 1 ≤ s.length := by cases s <;> simp_all
  obtain ⟨n, hn⟩ : ∃ n, s.length = n + 1 := ⟨s.length - 1, by omega⟩
  rw [hn]
  simp only [utfL]
  rw [if_neg h, if_pos hw]
theorem valueL_long {s : List UInt8} (h : 32 < s.length) : valueL s = false := by
  unfold valueL; rw [show decide (s.length ≤ 32) = false by simp; omega]; rfl
theorem valueL_of {s : List UInt8} (h : s.length ≤ 32) : valueL s = utfL s.length s := by
  unfold valueL; rw [show decide (s.length ≤ 32) = true by simp; omega]; rfl
theorem valueL_len {s : List UInt8} (h : valueL s = true) : s.length ≤ 32 := by
  unfold valueL at h; simp only [Bool.and_eq_true, decide_eq_true_eq] at h; exact h.1
theorem dec_65533 (s : List UInt8) (h : (Lib.decodeL s).1 = 65533) : (Lib.decodeL s).2 = 1 ∨ (Lib.decodeL s).2 = 3 := by
  rw [Lib.decodeL_N] at *
  generalize (s.getD 0 0).toNat = b0 at *
  generalize (s.getD 1 0).toNat = b1 at *
  generalize (s.getD 2 0).toNat = b2 at *
  generalize (s.getD 3 0).toNat = b3 at *
  unfold Lib.decodeN at *
  by_cases c1 : b0 < 128
  · rw [if_pos c1]; exact .inl rfl
  rw [if_neg c1] at *
  by_cases c2 : b0 / 32 = 6 ∧ (1 < s.length ∧ b1 / 64 = 2)
  · rw [if_pos c2] at *
    split
    · rename_i hc; rw [if_pos hc] at h; simp only at h; omega
    · exact .inl rfl
  rw [if_neg c2] at *
  by_cases c3 : b0 / 16 = 14 ∧ (1 < s.length ∧ b1 / 64 = 2) ∧ (2 < s.length ∧ b2 / 64 = 2)
  · rw [if_pos c3] at *
    split
    · exact .inr rfl
    · exact .inl rfl
  rw [if_neg c3] at *
  split
  · rename_i c4
    rw [if_pos c4] at h
    split
    · rename_i hc; rw [if_pos hc] at h; simp only at h; omega
    · exact .inl rfl
  · exact .inl rfl
/-- A rune, or none. -/
theorem dec_cases (s : List UInt8) : ((Lib.decodeL s).1 = 65533 ∧ (Lib.decodeL s).2 = 1 ∧ wideL s = 0) ∨ ((Lib.decodeL s).2 = wideL s ∧ 1 ≤ wideL s ∧ ((Lib.decodeL s).1 = 65533 → wideL s = 3)) := by
  have h := dec_65533 s
  have hw := Lib.decodeL_width s
  unfold wideL
  by_cases hc : (Lib.decodeL s).1 = 65533 ∧ (Lib.decodeL s).2 = 1
  · rw [if_pos hc]; exact .inl ⟨hc.1, hc.2, rfl⟩
  · rw [if_neg hc]
    refine .inr ⟨rfl, hw, fun e => ?_⟩
    rcases h e with k | k
    · exact absurd ⟨e, k⟩ hc
    · exact k
theorem decode_str (s : List UInt8) (pos : Nat) : Utf8.decode (str s) pos = Lib.decodeL (s.drop pos) := by
  rw [← Lib.decodeL_drop, str_data]
end Go.Proofs.YtopnnhjfcfhihaaDoor
