/-
  Layer 5 (match): how the document's own Parse takes a text apart, plain. No program is named.
-/
import Derived.Test.YtopnnhjfcfhihaaDoorMatchParse
import Derived.Test.YtopnnhjfcfhihaaDoorLabelParseR
namespace Go.Proofs.YtopnnhjfcfhihaaDoor
open Go.RowKit Go.Deep
set_option linter.unusedVariables false
set_option linter.unusedSimpArgs false
def endM : List Mat → List UInt8
  | [] => []
  | m :: r => textM m ++ (tailM r ++ [93])
theorem tail_drop (r : List Mat) : (tailM r ++ [93]).drop 1 = endM r := by
  cases r with
  | nil => rfl
  | cons m r => simp [tailM, endM]
theorem tail_head (r : List Mat) : ∃ c X, tailM r ++ [93] = c :: X ∧ c ≠ 124 := by
  cases r with
  | nil => exact ⟨93, [], rfl, by decide⟩
  | cons m r => exact ⟨44, _, rfl, by decide⟩
/-- The kind and the name in what stands ahead of '='. -/
def kindR (p : List UInt8) : Int × List UInt8 :=
  if p.getLast? = some 33 then (1, p.dropLast) else if p.getLast? = some 94 then (2, p.dropLast) else if p.getLast? = some 64 then (3, p.dropLast) else (0, p)
theorem kindR_text {m : Mat} (hm : chkL m = true) : ∃ p, signL m.1 = p ++ [61] ∧ kindR (m.2.1 ++ p) = (m.1, m.2.1) ∧ (∀ c ∈ m.2.1 ++ p, c.toNat ≠ 61) ∧ m.2.1 ++ p ≠ [] := by
  have hn := (chkL_is hm).1
  have hk := chkL_kind hm
  have hne := nameL_ne hn
  have h61 := nameL_61 hn
  by_cases h0 : m.1 = 0
  · refine ⟨[], by rw [h0]; rfl, ?_, by simpa using h61, by simpa using hne⟩
    rw [List.append_nil, h0]
    have hl : ∀ c, m.2.1.getLast? = some c → nameC c = true := fun c hc => nameL_all hn c (List.mem_of_getLast? hc)
    unfold kindR
    rw [if_neg (fun e => by have := hl _ e; revert this; decide), if_neg (fun e => by have := hl _ e; revert this; decide), if_neg (fun e => by have := hl _ e; revert this; decide)]
  have fin : ∀ (a : UInt8), a.toNat ≠ 61 → (∀ c ∈ m.2.1 ++ [a], c.toNat ≠ 61) ∧ m.2.1 ++ [a] ≠ [] := fun a ha => ⟨fun c hc => by
    rcases List.mem_append.1 hc with hc | hc
    · exact h61 c hc
    · simp at hc; rw [hc]; exact ha, by simp⟩
  by_cases h1 : m.1 = 1
  · refine ⟨[33], by rw [h1]; rfl, ?_, fin 33 (by decide)⟩
    unfold kindR; simp [h1]
  by_cases h2 : m.1 = 2
  · refine ⟨[94], by rw [h2]; rfl, ?_, fin 94 (by decide)⟩
    unfold kindR; simp [h2]
  have h3 : m.1 = 3 := by omega
  refine ⟨[64], by rw [h3]; rfl, ?_, fin 64 (by decide)⟩
  unfold kindR; simp [h3]
def GoesN (s : List UInt8) (acc : List Mat) (a : Nat) : Prop := ∀ L, okMs L = true → printM L = s → ∃ r, L = acc ++ r ∧ s.drop a = endM r
theorem GoesN.start {s : List UInt8} (h : s ≠ [91, 93]) : GoesN s [] 1 := by
  rintro L hL rfl
  refine ⟨L, rfl, ?_⟩
  cases L with
  | nil => exact absurd rfl h
  | cons m r => simp [printM, endM, partsM_cons]
theorem endM_ne {m : Mat} {r : List Mat} : endM (m :: r) ≠ [] := by simp [endM]
theorem GoesN.done {s : List UInt8} {acc : List Mat} {a : Nat} (h : GoesN s acc a) (ha : s.length ≤ a) : ∀ L, okMs L = true → printM L = s → L = acc := by
  intro L hL hs
  obtain ⟨r, h1, h2⟩ := h L hL hs
  rw [List.drop_eq_nil_of_le ha] at h2
  cases r with
  | nil => simpa using h1
  | cons m r => exact absurd h2.symm endM_ne
theorem GoesN.more {s : List UInt8} {acc : List Mat} {a : Nat} (h : GoesN s acc a) (ha : a < s.length) : ∀ L, okMs L = true → printM L = s → ∃ m r v q, L = acc ++ m :: r ∧ chkL m = true ∧ valsL m = v :: q ∧
    ∃ p, kindR (m.2.1 ++ p) = (m.1, m.2.1) ∧ m.2.1 ++ p ≠ [] ∧ cutE (s.drop a) = some (m.2.1 ++ p, quoteL v ++ (tailQ q ++ (tailM r ++ [93]))) := by
  intro L hL hs
  obtain ⟨r, h1, h2⟩ := h L hL hs
  cases r with
  | nil =>
    have := congrArg List.length h2
    rw [List.length_drop] at this
    simp [endM] at this
    omega
  | cons m r =>
    have hm := okMs_mem hL m (by rw [h1]; simp)
    obtain ⟨p, e1, e2, e3, e4⟩ := kindR_text hm
    have hv := (vals_ok (t := []) hm (.inl rfl)).1
    cases hvl : valsL m with
    | nil => exact absurd hvl hv
    | cons v q =>
      refine ⟨m, r, v, q, h1, hm, hvl, p, e2, e4, ?_⟩
      rw [h2]
      show cutE (textM m ++ (tailM r ++ [93])) = _
      unfold textM
      rw [e1, body_vals, hvl, joinQ_cons]
      have := cutE_name (r := quoteL v ++ (tailQ q ++ (tailM r ++ [93]))) e3
      simpa using this
theorem GoesN.noCut {s : List UInt8} {acc : List Mat} {a : Nat} (h : GoesN s acc a) (ha : a < s.length) (hc : cutE (s.drop a) = none) : ∀ L, okMs L = true → printM L ≠ s := by
  intro L hL hs
  obtain ⟨m, r, v, q, _, _, _, p, _, _, h6⟩ := h.more ha L hL hs
  rw [hc] at h6; cases h6
theorem GoesN.noName {s x : List UInt8} {acc : List Mat} {a : Nat} (h : GoesN s acc a) (ha : a < s.length) (hc : cutE (s.drop a) = some ([], x)) : ∀ L, okMs L = true → printM L ≠ s := by
  intro L hL hs
  obtain ⟨m, r, v, q, _, _, _, p, _, h5, h6⟩ := h.more ha L hL hs
  rw [hc] at h6
  injection h6 with h6
  injection h6 with h6 _
  exact h5 h6.symm
theorem GoesN.noQuote {s b x : List UInt8} {acc : List Mat} {a : Nat} (h : GoesN s acc a) (ha : a < s.length) (hc : cutE (s.drop a) = some (b, x)) (hq : (quotedL x).2 = 0) : ∀ L, okMs L = true → printM L ≠ s := by
  intro L hL hs
  obtain ⟨m, r, v, q, _, _, _, p, _, _, h6⟩ := h.more ha L hL hs
  rw [hc] at h6
  injection h6 with h6
  injection h6 with _ h6
  rw [h6, quotedL_quote] at hq
  simp [quoteL] at hq
/-- Within a matcher: its kind, its name, the values so far. -/
def GoesV (s : List UInt8) (acc : List Mat) (k : Int) (n : List UInt8) (vs : List (List UInt8)) (a : Nat) : Prop :=
  ∀ L, okMs L = true → printM L = s → ∃ m r q, L = acc ++ m :: r ∧ chkL m = true ∧ m.1 = k ∧ m.2.1 = n ∧ valsL m = vs ++ q ∧ s.drop a = tailQ q ++ (tailM r ++ [93])
theorem GoesN.step {s b n v : List UInt8} {acc : List Mat} {a j N : Nat} {k : Int} (h : GoesN s acc a) (ha : a < s.length) (hc : cutE (s.drop a) = some (b, s.drop j)) (hk : kindR b = (k, n)) (hq : quotedL (s.drop j) = (v, N)) : GoesV s acc k n [v] (j + N) := by
  intro L hL hs
  obtain ⟨m, r, v', q, h1, h2, h3, p, h4, _, h6⟩ := h.more ha L hL hs
  rw [hc] at h6
  injection h6 with h6
  injection h6 with h7 h8
  rw [← h7, hk] at h4
  injection h4 with h9 h10
  rw [h8, quotedL_quote] at hq
  injection hq with h11 h12
  subst h11
  refine ⟨m, r, q, h1, h2, h9.symm, h10.symm, by rw [h3]; rfl, ?_⟩
  rw [← List.drop_drop, h8, ← h12, List.drop_left]
theorem matOf_vals {m : Mat} {k : Int} {n : List UInt8} {vs : List (List UInt8)} (hm : chkL m = true) (h1 : m.1 = k) (h2 : m.2.1 = n) (h3 : valsL m = vs) : m = matOf k n vs := by
  have := matOf_is hm
  rw [h1, h2, h3] at this
  exact this
theorem GoesV.one {s n v : List UInt8} {acc : List Mat} {a : Nat} {k : Int} (h : GoesV s acc k n [v] a) (hk : k ≠ 3) : GoesN s (acc ++ [matOf k n [v]]) (a + 1) := by
  intro L hL hs
  obtain ⟨m, r, q, h1, h2, h3, h4, h5, h6⟩ := h L hL hs
  have hq : q = [] := by
    unfold valsL at h5
    rw [if_neg (by rw [h3]; exact hk)] at h5
    simp at h5
    exact h5.2
  subst hq
  refine ⟨r, by rw [h1, matOf_vals h2 h3 h4 (by simpa using h5)]; simp, ?_⟩
  rw [← List.drop_drop, h6]
  exact tail_drop r
theorem GoesV.fin {s n : List UInt8} {vs : List (List UInt8)} {acc : List Mat} {a : Nat} {k : Int} (h : GoesV s acc k n vs a) (he : ∀ hl : a < s.length, s[a] ≠ 124) : GoesN s (acc ++ [matOf k n vs]) (a + 1) := by
  intro L hL hs
  obtain ⟨m, r, q, h1, h2, h3, h4, h5, h6⟩ := h L hL hs
  have hq : q = [] := by
    cases q with
    | nil => rfl
    | cons v q =>
      have e : s.drop a = 124 :: (quoteL v ++ (tailQ q ++ (tailM r ++ [93]))) := by rw [h6]; simp [tailQ]
      have hl : a < s.length := by
        have := congrArg List.length e
        rw [List.length_drop] at this
        simp at this
        omega
      rw [List.drop_eq_getElem_cons hl] at e
      injection e with e _
      exact absurd e (he hl)
  subst hq
  refine ⟨r, by rw [h1, matOf_vals h2 h3 h4 (by simpa using h5)]; simp, ?_⟩
  rw [← List.drop_drop, h6]
  exact tail_drop r
theorem GoesV.next {s n : List UInt8} {vs : List (List UInt8)} {acc : List Mat} {a : Nat} {k : Int} (h : GoesV s acc k n vs a) (hl : a < s.length) (he : s[a] = 124) : ∀ L, okMs L = true → printM L = s → ∃ m r v q, L = acc ++ m :: r ∧ chkL m = true ∧ m.1 = k ∧ m.2.1 = n ∧ valsL m = vs ++ v :: q ∧ s.drop (a + 1) = quoteL v ++ (tailQ q ++ (tailM r ++ [93])) := by
  intro L hL hs
  obtain ⟨m, r, q, h1, h2, h3, h4, h5, h6⟩ := h L hL hs
  rw [List.drop_eq_getElem_cons hl, he] at h6
  cases q with
  | nil =>
    obtain ⟨c, X, e1, e2⟩ := tail_head r
    have h7 : 124 :: s.drop (a + 1) = c :: X := by rw [h6]; simpa [tailQ] using e1
    injection h7 with h7 _
    exact absurd h7.symm e2
  | cons v q =>
    have h7 : 124 :: s.drop (a + 1) = 124 :: (quoteL v ++ (tailQ q ++ (tailM r ++ [93]))) := by rw [h6]; simp [tailQ]
    injection h7 with _ h7
    exact ⟨m, r, v, q, h1, h2, h3, h4, h5, h7⟩
theorem GoesV.bad {s n : List UInt8} {vs : List (List UInt8)} {acc : List Mat} {a : Nat} {k : Int} (h : GoesV s acc k n vs a) (hl : a < s.length) (he : s[a] = 124) (hq : (quotedL (s.drop (a + 1))).2 = 0) : ∀ L, okMs L = true → printM L ≠ s := by
  intro L hL hs
  obtain ⟨m, r, v, q, _, _, _, _, _, h6⟩ := h.next hl he L hL hs
  rw [h6, quotedL_quote] at hq
  simp [quoteL] at hq
theorem GoesV.step {s n u : List UInt8} {vs : List (List UInt8)} {acc : List Mat} {a N : Nat} {k : Int} (h : GoesV s acc k n vs a) (hl : a < s.length) (he : s[a] = 124) (hq : quotedL (s.drop (a + 1)) = (u, N)) : GoesV s acc k n (vs ++ [u]) (a + 1 + N) := by
  intro L hL hs
  obtain ⟨m, r, v, q, h1, h2, h3, h4, h5, h6⟩ := h.next hl he L hL hs
  rw [h6, quotedL_quote] at hq
  injection hq with h11 h12
  subst h11
  refine ⟨m, r, q, h1, h2, h3, h4, by rw [h5]; simp, ?_⟩
  rw [← List.drop_drop, h6, ← h12, List.drop_left]
end Go.Proofs.YtopnnhjfcfhihaaDoor
