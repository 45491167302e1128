/-
  Layer 5 (match): the text of matchers, plain. No program is named.
-/
import Derived.Test.YtopnnhjfcfhihaaDoorMatchForm
namespace Go.Proofs.YtopnnhjfcfhihaaDoor
open Go.RowKit Go.Deep
theorem join_snoc (xs : List (List UInt8)) (x : List UInt8) (c : UInt8) : Lib.join (xs ++ [x]) [c] = Lib.join xs [c] ++ ((if xs = [] then [] else [c]) ++ x) := by
  cases xs with
  | nil => simp [Lib.join_nil, Lib.join_one]
  | cons y r =>
    rw [List.cons_append, Lib.join_cons, Lib.join_cons]
    simp [Lib.joinTail]
theorem join_le (xs : List (List UInt8)) (c : UInt8) (b : Nat) (h : ∀ x ∈ xs, x.length ≤ b) : (Lib.join xs [c]).length ≤ xs.length * (b + 1) := by
  suffices hs : ∀ n, (Lib.join (xs.take n) [c]).length ≤ (xs.take n).length * (b + 1) by
    have := hs xs.length
    rwa [List.take_length] at this
  intro n
  induction n with
  | zero => simp [Lib.join_nil]
  | succ n ih =>
    by_cases hn : n < xs.length
    · rw [List.take_succ_eq_append_getElem hn, join_snoc]
      have h1 := h _ (List.getElem_mem hn)
      have h2 : (if xs.take n = [] then [] else [c] : List UInt8).length ≤ 1 := by split <;> simp
      simp only [List.length_append, List.length_singleton, Nat.add_mul, Nat.one_mul]
      omega
    · rw [List.take_of_length_le (by omega)]
      rw [List.take_of_length_le (by omega)] at ih
      exact ih
def signL (k : Int) : List UInt8 := if k = 0 then [61] else if k = 1 then [33, 61] else if k = 2 then [94, 61] else [64, 61]
theorem signL_len (k : Int) : (signL k).length ≤ 2 := by unfold signL; split <;> (try split) <;> (try split) <;> simp
def joinQ (s : List (List UInt8)) : List UInt8 := Lib.join (s.map quoteL) [124]
def bodyL (m : Mat) : List UInt8 := if m.1 = 3 then joinQ m.2.2.2 else quoteL m.2.2.1
def textM (m : Mat) : List UInt8 := m.2.1 ++ (signL m.1 ++ bodyL m)
def partsM (ms : List Mat) : List UInt8 := Lib.join (ms.map textM) [44]
def printM (ms : List Mat) : List UInt8 := 91 :: (partsM ms ++ [93])
def okMs (ms : List Mat) : Bool := decide (ms.length ≤ 8) && ms.all chkL
theorem joinQ_take {s : List (List UInt8)} {i : Nat} (h : i < s.length) : joinQ (s.take (i + 1)) = joinQ (s.take i) ++ ((if i = 0 then [] else [124]) ++ quoteL s[i]) := by
  unfold joinQ
  rw [List.take_succ_eq_append_getElem h, List.map_append, List.map_singleton, join_snoc]
  congr 2
  by_cases hi : i = 0
  · subst hi; simp
  · rw [if_neg hi, if_neg (fun e => hi (by have := congrArg List.length e; simp only [List.length_map, List.length_take, List.length_nil] at this; omega))]
theorem partsM_take {ms : List Mat} {i : Nat} (h : i < ms.length) : partsM (ms.take (i + 1)) = partsM (ms.take i) ++ ((if i = 0 then [] else [44]) ++ textM ms[i]) := by
  unfold partsM
  rw [List.take_succ_eq_append_getElem h, List.map_append, List.map_singleton, join_snoc]
  congr 2
  by_cases hi : i = 0
  · subst hi; simp
  · rw [if_neg hi, if_neg (fun e => hi (by have := congrArg List.length e; simp only [List.length_map, List.length_take, List.length_nil] at this; omega))]
theorem setL_len {s : List (List UInt8)} (h : setL s = true) : 1 ≤ s.length ∧ s.length ≤ 8 := by
  unfold setL at h; simp only [Bool.and_eq_true, decide_eq_true_eq] at h; exact h.1
theorem setL_mem {s : List (List UInt8)} (h : setL s = true) : ∀ x ∈ s, valueL x = true := by
  unfold setL at h; simp only [Bool.and_eq_true, decide_eq_true_eq] at h; exact setFrom_mem h.2
/-- What a matcher that may be is. -/
theorem chkL_is {m : Mat} (h : chkL m = true) : nameL m.2.1 = true ∧ ((m.1 = 3 ∧ m.2.2.1 = [] ∧ setL m.2.2.2 = true) ∨ (0 ≤ m.1 ∧ m.1 < 3 ∧ valueL m.2.2.1 = true ∧ m.2.2.2 = [])) := by
  unfold chkL at h
  rw [Bool.and_eq_true] at h
  refine ⟨h.1, ?_⟩
  have h2 := h.2
  by_cases h3 : m.1 = 3
  · rw [if_pos h3, Bool.and_eq_true, beq_iff_eq] at h2
    exact .inl ⟨h3, h2.1, h2.2⟩
  · rw [if_neg h3] at h2
    by_cases hk : 0 ≤ m.1 ∧ m.1 ≤ 3
    · rw [if_pos hk, Bool.and_eq_true, decide_eq_true_eq] at h2
      exact .inr ⟨hk.1, by omega, h2.1, List.eq_nil_of_length_eq_zero h2.2⟩
    · rw [if_neg hk] at h2; cases h2
theorem chkL_small {m : Mat} (h : chkL m = true) : m.2.1.length ≤ 16 ∧ m.2.2.1.length ≤ 32 ∧ m.2.2.2.length ≤ 8 ∧ ∀ x ∈ m.2.2.2, x.length ≤ 32 := by
  obtain ⟨h1, h2 | h2⟩ := chkL_is h
  · refine ⟨nameL_len h1, by rw [h2.2.1]; simp, (setL_len h2.2.2).2, fun x hx => valueL_len (setL_mem h2.2.2 x hx)⟩
  · refine ⟨nameL_len h1, valueL_len h2.2.2.1, by rw [h2.2.2.2]; simp, fun x hx => by rw [h2.2.2.2] at hx; simp at hx⟩
theorem chkL_kind {m : Mat} (h : chkL m = true) : 0 ≤ m.1 ∧ m.1 ≤ 3 := by
  obtain ⟨_, h2 | h2⟩ := chkL_is h <;> omega
theorem joinQ_len {s : List (List UInt8)} (h1 : s.length ≤ 8) (h : ∀ x ∈ s, x.length ≤ 32) : (joinQ s).length ≤ 536 := by
  have := join_le (s.map quoteL) 124 66 (fun x hx => by
    obtain ⟨y, hy, rfl⟩ := List.mem_map.1 hx
    have := quoteL_len y; have := h y hy; omega)
  unfold joinQ
  rw [List.length_map] at this
  omega
theorem bodyL_len {m : Mat} (h : chkL m = true) : (bodyL m).length ≤ 536 := by
  obtain ⟨_, h2, h3, h4⟩ := chkL_small h
  unfold bodyL
  split
  · exact joinQ_len h3 h4
  · have := quoteL_len m.2.2.1; omega
theorem textM_len {m : Mat} (h : chkL m = true) : (textM m).length ≤ 554 := by
  have h1 := (chkL_small h).1
  have h2 := bodyL_len h
  have h3 := signL_len m.1
  unfold textM
  simp only [List.length_append]
  omega
theorem okMs_len {ms : List Mat} (h : okMs ms = true) : ms.length ≤ 8 := by unfold okMs at h; simp only [Bool.and_eq_true, decide_eq_true_eq] at h; exact h.1
theorem okMs_mem {ms : List Mat} (h : okMs ms = true) : ∀ m ∈ ms, chkL m = true := by unfold okMs at h; simp only [Bool.and_eq_true, List.all_eq_true] at h; exact h.2
theorem partsM_len {ms : List Mat} (h8 : ms.length ≤ 8) (h : ∀ m ∈ ms, chkL m = true) : (partsM ms).length ≤ 4440 := by
  have := join_le (ms.map textM) 44 554 (fun x hx => by
    obtain ⟨y, hy, rfl⟩ := List.mem_map.1 hx
    exact textM_len (h y hy))
  unfold partsM
  rw [List.length_map] at this
  omega
theorem printM_len {ms : List Mat} (h : okMs ms = true) : (printM ms).length ≤ 4442 := by
  have := partsM_len (okMs_len h) (okMs_mem h)
  unfold printM; simp; omega
end Go.Proofs.YtopnnhjfcfhihaaDoor
