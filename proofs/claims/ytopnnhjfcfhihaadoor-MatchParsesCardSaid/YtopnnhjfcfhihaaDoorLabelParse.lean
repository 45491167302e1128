/-
  Layer 4 (label): how a text is taken apart, plain: cutting at '=', taking off what stands at the ends. No program is named.
-/
import Derived.Test.YtopnnhjfcfhihaaDoorLabelForm
import Derived.Lib.IndexMore
import Derived.Lib.Strings
namespace Go.Proofs.YtopnnhjfcfhihaaDoor
open Go.RowKit Go.Deep

theorem cut_cons (c : UInt8) (s : List UInt8) : Lib.cut (c :: s) [61] = if c.toNat = 61 then ([], s, true) else (match Lib.cut s [61] with | (a, b, true) => (c :: a, b, true) | (_, _, false) => (c :: s, [], false)) := by
  have hp : ([61] : List UInt8).isPrefixOf (c :: s) = decide (c.toNat = 61) := by
    simp only [List.isPrefixOf, Bool.and_true]
    rw [Bool.eq_iff_iff]
    simp only [beq_iff_eq, decide_eq_true_eq]
    constructor
    · intro h; rw [← h]; rfl
    · intro h; exact (u8_eq (by rw [h]; rfl))
  by_cases h : c.toNat = 61
  · rw [if_pos h]
    have hi : Lib.index (c :: s) [61] = 0 := by rw [Lib.index, hp]; simp [h]
    unfold Lib.cut
    rw [hi]
    simp
  · rw [if_neg h]
    have hi : Lib.index (c :: s) [61] = if Lib.index s [61] == -1 then -1 else Lib.index s [61] + 1 := by rw [Lib.index, hp]; simp [h]
    have hge := Lib.index_ge s [61]
    unfold Lib.cut
    rw [hi]
    by_cases h1 : Lib.index s [61] = -1
    · rw [h1]; simp
    · obtain ⟨j, hj⟩ : ∃ j : Nat, Lib.index s [61] = j := ⟨(Lib.index s [61]).toNat, by omega⟩
      rw [hj]
      have hb : (((j : Nat) : Int) == -1) = false := by rw [beq_eq_false_iff_ne]; omega
      rw [hb]
      simp only [Bool.false_eq_true, if_false]
      rw [if_pos (by omega), if_pos (by omega)]
      have e1 : ((j : Int) + 1).toNat = j + 1 := by omega
      rw [e1, Int.toNat_natCast]
      simp
theorem cut_E (s : List UInt8) : Lib.cut s [61] = (match cutE s with | some (a, b) => (a, b, true) | none => (s, [], false)) := by
  induction s with
  | nil => rfl
  | cons c s ih =>
    rw [cut_cons, cutE, ih]
    by_cases h : c.toNat = 61
    · rw [if_pos h, if_pos h]
    · rw [if_neg h, if_neg h]
      cases cutE s with
      | none => rfl
      | some x => obtain ⟨a, b⟩ := x; rfl
theorem cutE_len {s a b : List UInt8} (h : cutE s = some (a, b)) : a.length + b.length + 1 = s.length := by
  induction s generalizing a b with
  | nil => simp [cutE] at h
  | cons c s ih =>
    rw [cutE] at h
    by_cases hc : c.toNat = 61
    · rw [if_pos hc] at h
      injection h with h
      injection h with h1 h2
      subst h1 h2; simp
    · rw [if_neg hc] at h
      cases hs : cutE s with
      | none => rw [hs] at h; cases h
      | some x =>
        obtain ⟨a', b'⟩ := x
        rw [hs] at h
        injection h with h
        injection h with h1 h2
        have := ih hs
        subst h1 h2; simp; omega
theorem trimP_tail (r : List Lab) : Lib.trimPrefix (tailB r) [44] = printB r := by
  cases r with
  | nil => rfl
  | cons x r => simp [tailB, printB, Lib.trimPrefix, Lib.hasPrefix, List.isPrefixOf]
theorem trimP_len (s p : List UInt8) : (Lib.trimPrefix s p).length ≤ s.length := by
  unfold Lib.trimPrefix; split <;> simp
theorem trimS_len (s p : List UInt8) : (Lib.trimSuffix s p).length ≤ s.length := by
  unfold Lib.trimSuffix; split <;> simp
theorem trim_print (l : List Lab) : Lib.trimSuffix (Lib.trimPrefix (printL l) [123]) [125] = printB l := by
  have e1 : Lib.trimPrefix (printL l) [123] = printB l ++ [125] := by
    simp [printL, Lib.trimPrefix, Lib.hasPrefix, List.isPrefixOf]
  rw [e1]
  have e2 : Lib.hasSuffix (printB l ++ [125]) [125] = true := by
    unfold Lib.hasSuffix
    rw [List.isSuffixOf_iff_suffix]
    exact ⟨printB l, rfl⟩
  unfold Lib.trimSuffix
  rw [if_pos e2]
  simp
/-- What unquote answers. -/
def unqL (s : List UInt8) : List UInt8 × List UInt8 × Bool := match scan (s.drop 1) with
  | some (v, b) => (v, b, true)
  | none => ([], [], false)
/-- The only labels of which s could still be the text: acc, and those whose inside is rest. -/
def Goes (s : List UInt8) (acc : List Lab) (rest : List UInt8) : Prop := ∀ L, okL L = true → printL L = s → ∃ r, L = acc ++ r ∧ printB r = rest
theorem Goes.start (s : List UInt8) : Goes s [] (Lib.trimSuffix (Lib.trimPrefix s [123]) [125]) := by
  rintro L hL rfl
  exact ⟨L, rfl, (trim_print L).symm⟩
theorem Goes.done {s : List UInt8} {acc : List Lab} (h : Goes s acc []) : ∀ L, okL L = true → printL L = s → L = acc := by
  intro L hL hs
  obtain ⟨r, h1, h2⟩ := h L hL hs
  cases r with
  | nil => simpa using h1
  | cons x r => exact absurd h2 printB_ne
/-- One label more. -/
theorem Goes.more {s : List UInt8} {acc : List Lab} {rest : List UInt8} (h : Goes s acc rest) (hne : rest ≠ []) : ∀ L, okL L = true → printL L = s → ∃ x r, L = acc ++ x :: r ∧ cutE rest = some (x.1, 34 :: (quoteB x.2 ++ 34 :: tailB r)) ∧ scan (quoteB x.2 ++ 34 :: tailB r) = some (x.2, tailB r) := by
  intro L hL hs
  obtain ⟨r, h1, h2⟩ := h L hL hs
  cases r with
  | nil => exact absurd h2.symm hne
  | cons x r =>
    have hx : nameL x.1 = true := (okL_mem hL x (by rw [h1]; simp)).1
    exact ⟨x, r, h1, by rw [← h2]; exact cutE_print hx, scan_quote _ _⟩
theorem Goes.noCut {s : List UInt8} {acc : List Lab} {rest : List UInt8} (h : Goes s acc rest) (hne : rest ≠ []) (hc : cutE rest = none) : ∀ L, okL L = true → printL L ≠ s := by
  intro L hL hs
  obtain ⟨x, r, _, h2, _⟩ := h.more hne L hL hs
  rw [hc] at h2; cases h2
theorem Goes.full {s : List UInt8} {acc : List Lab} {rest : List UInt8} (h : Goes s acc rest) (hne : rest ≠ []) (ha : acc.length = 8) : ∀ L, okL L = true → printL L ≠ s := by
  intro L hL hs
  obtain ⟨x, r, h1, _, _⟩ := h.more hne L hL hs
  have := okL_len hL
  rw [h1] at this
  simp at this
  omega
theorem Goes.noScan {s : List UInt8} {acc : List Lab} {rest n b : List UInt8} (h : Goes s acc rest) (hne : rest ≠ []) (hc : cutE rest = some (n, b)) (hs : scan (b.drop 1) = none) : ∀ L, okL L = true → printL L ≠ s := by
  intro L hL hp
  obtain ⟨x, r, _, h2, h3⟩ := h.more hne L hL hp
  rw [hc] at h2
  injection h2 with h2
  injection h2 with _ h4
  rw [h4] at hs
  simp only [List.drop_succ_cons, List.drop_zero] at hs
  rw [hs] at h3; cases h3
theorem Goes.step {s : List UInt8} {acc : List Lab} {rest n b v q : List UInt8} (h : Goes s acc rest) (hne : rest ≠ []) (hc : cutE rest = some (n, b)) (hs : scan (b.drop 1) = some (v, q)) : Goes s (acc ++ [(n, v)]) (Lib.trimPrefix q [44]) := by
  intro L hL hp
  obtain ⟨x, r, h1, h2, h3⟩ := h.more hne L hL hp
  rw [hc] at h2
  injection h2 with h2
  injection h2 with h5 h4
  rw [h4] at hs
  simp only [List.drop_succ_cons, List.drop_zero] at hs
  rw [h3] at hs
  injection hs with hs
  injection hs with h6 h7
  refine ⟨r, ?_, by rw [← h7, trimP_tail]⟩
  rw [h1, h5, ← h6]
  simp
end Go.Proofs.YtopnnhjfcfhihaaDoor
