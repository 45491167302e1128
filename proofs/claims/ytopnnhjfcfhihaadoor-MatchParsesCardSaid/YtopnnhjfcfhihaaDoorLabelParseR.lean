/-
  Layer 4 (label): how the document's own Parse takes a text apart, plain. No program is named.
-/
import Derived.Test.YtopnnhjfcfhihaaDoorLabelParse
namespace Go.Proofs.YtopnnhjfcfhihaaDoor
open Go.RowKit Go.Deep
set_option linter.unusedVariables false

theorem cutE_none {s : List UInt8} (h : ∀ c ∈ s, c.toNat ≠ 61) : cutE s = none := by
  induction s with
  | nil => rfl
  | cons c s ih =>
    rw [cutE, if_neg (h c (by simp)), ih (fun x hx => h x (by simp [hx]))]
theorem cutE_at {s : List UInt8} {a k : Nat} (hak : a ≤ k) (hk : k < s.length) (hc : (s[k]'hk).toNat = 61) (h : ∀ j (hj : j < s.length), a ≤ j → j < k → (s[j]'hj).toNat ≠ 61) : cutE (s.drop a) = some ((s.drop a).take (k - a), s.drop (k + 1)) := by
  have e : s.drop a = (s.drop a).take (k - a) ++ 61 :: s.drop (k + 1) := by
    have e1 : (s.drop a).drop (k - a) = s.drop k := by rw [List.drop_drop]; congr 1; omega
    have e2 : s.drop k = 61 :: s.drop (k + 1) := by
      rw [List.drop_eq_getElem_cons hk]
      congr 1
      exact u8_eq hc
    rw [← e2, ← e1, List.take_append_drop]
  have hn : ∀ c ∈ (s.drop a).take (k - a), c.toNat ≠ 61 := by
    intro c hcm
    obtain ⟨i, hi, rfl⟩ := List.getElem_of_mem hcm
    rw [List.length_take, List.length_drop] at hi
    have := h (a + i) (by omega) (by omega) (by omega)
    simpa using this
  have := cutE_name (r := s.drop (k + 1)) hn
  rw [← e] at this
  exact this
theorem cutE_end {s : List UInt8} {a : Nat} (h : ∀ j (hj : j < s.length), a ≤ j → j < s.length → (s[j]'hj).toNat ≠ 61) : cutE (s.drop a) = none := by
  apply cutE_none
  intro c hc
  obtain ⟨i, hi, rfl⟩ := List.getElem_of_mem hc
  rw [List.length_drop] at hi
  have := h (a + i) (by omega) (by omega) (by omega)
  simpa using this
/-- The only labels of which s could still be the text: acc, and those that stand from place a on. -/
def GoesR (s : List UInt8) (acc : List Lab) (a : Nat) : Prop := ∀ L, okL L = true → printL L = s → ∃ r, L = acc ++ r ∧ ((r = [] ∧ s.length ≤ a) ∨ (r ≠ [] ∧ s.drop a = printB r ++ [125]))
theorem GoesR.start {s : List UInt8} (h : s ≠ [123, 125]) : GoesR s [] 1 := by
  rintro L hL rfl
  refine ⟨L, rfl, .inr ⟨?_, by simp [printL]⟩⟩
  rintro rfl
  exact h rfl
theorem GoesR.done {s : List UInt8} {acc : List Lab} {a : Nat} (h : GoesR s acc a) (ha : s.length ≤ a) : ∀ L, okL L = true → printL L = s → L = acc := by
  intro L hL hs
  obtain ⟨r, h1, h2 | h2⟩ := h L hL hs
  · rw [h1, h2.1]; simp
  · have := h2.2
    rw [List.drop_eq_nil_of_le ha] at this
    have := congrArg List.length this
    simp at this
theorem GoesR.more {s : List UInt8} {acc : List Lab} {a : Nat} (h : GoesR s acc a) (ha : a < s.length) : ∀ L, okL L = true → printL L = s → ∃ x r, L = acc ++ x :: r ∧ cutE (s.drop a) = some (x.1, quoteL x.2 ++ (tailB r ++ [125])) := by
  intro L hL hs
  obtain ⟨r, h1, h2 | h2⟩ := h L hL hs
  · omega
  · cases r with
    | nil => exact absurd rfl h2.1
    | cons x r =>
      have hx : nameL x.1 = true := (okL_mem hL x (by rw [h1]; simp)).1
      refine ⟨x, r, h1, ?_⟩
      rw [h2.2, printB_cons]
      have e : x.1 ++ 61 :: 34 :: (quoteB x.2 ++ 34 :: tailB r) ++ [125] = x.1 ++ 61 :: (quoteL x.2 ++ (tailB r ++ [125])) := by simp [quoteL]
      rw [e]
      exact cutE_name (nameL_61 hx)
theorem GoesR.noCut {s : List UInt8} {acc : List Lab} {a : Nat} (h : GoesR s acc a) (ha : a < s.length) (hc : cutE (s.drop a) = none) : ∀ L, okL L = true → printL L ≠ s := by
  intro L hL hs
  obtain ⟨x, r, _, h2⟩ := h.more ha L hL hs
  rw [hc] at h2; cases h2
theorem GoesR.noQuote {s : List UInt8} {acc : List Lab} {a : Nat} {n b : List UInt8} (h : GoesR s acc a) (ha : a < s.length) (hc : cutE (s.drop a) = some (n, b)) (hq : (quotedL b).2 = 0) : ∀ L, okL L = true → printL L ≠ s := by
  intro L hL hs
  obtain ⟨x, r, _, h2⟩ := h.more ha L hL hs
  rw [hc] at h2
  injection h2 with h2
  injection h2 with _ h2
  rw [h2, quotedL_quote] at hq
  simp [quoteL] at hq
theorem GoesR.step {s : List UInt8} {acc : List Lab} {a k : Nat} {n : List UInt8} (h : GoesR s acc a) (ha : a < s.length) (hk : k < s.length) (hc : cutE (s.drop a) = some (n, s.drop (k + 1))) : GoesR s (acc ++ [(n, (quotedL (s.drop (k + 1))).1)]) (k + 1 + (quotedL (s.drop (k + 1))).2 + 1) := by
  intro L hL hs
  obtain ⟨x, r, h1, h2⟩ := h.more ha L hL hs
  rw [hc] at h2
  injection h2 with h2
  injection h2 with h3 h4
  have hq := quotedL_quote x.2 (tailB r ++ [125])
  rw [← h4] at hq
  rw [hq]
  simp only
  have hd : s.drop (k + 1 + (quoteL x.2).length) = tailB r ++ [125] := by
    rw [← List.drop_drop, h4, List.drop_left]
  refine ⟨r, by rw [h1, h3]; simp, ?_⟩
  have hd2 : s.drop (k + 1 + (quoteL x.2).length + 1) = (tailB r ++ [125]).drop 1 := by rw [← hd, List.drop_drop]
  cases r with
  | nil =>
    refine .inl ⟨rfl, ?_⟩
    have := congrArg List.length hd
    simp [tailB] at this
    omega
  | cons y r =>
    refine .inr ⟨by simp, ?_⟩
    rw [hd2]
    simp [tailB, printB]
theorem quotedL_le (s : List UInt8) : (quotedL s).2 ≤ s.length ∧ (quotedL s).1.length ≤ s.length := by
  cases s with
  | nil => simp [quotedL]
  | cons c r =>
    simp only [quotedL]
    split
    · cases hs : scan r with
      | none => simp
      | some x =>
        obtain ⟨v, b⟩ := x
        have := scan_len _ _ _ _ (Nat.le_refl _) hs
        simp; omega
    · simp
end Go.Proofs.YtopnnhjfcfhihaaDoor
