/-
  Layer 9 (block): what the laws want plainly. No program is named.
-/
import Derived.Test.YtndmndchbfmppaaBlockPure
namespace Go.Proofs.Ytndmndchbfmppaa
set_option linter.unusedVariables false
set_option linter.unusedSimpArgs false
/-- There is power, and no order. -/
def Calm (S : DSt) (n : Nat) : Prop := S.gone = false ∧ S.left = 0 ∧ S.n = n
theorem calm_new : Calm (newD 12) 12 := ⟨rfl, rfl, by decide⟩
theorem calm_count {S : DSt} {n : Nat} (h : Calm S n) : countD S = (false, { S with calls := S.calls + 1 }) := by unfold countD; rw [if_pos h.2.1]
theorem calm_write_bad {S : DSt} {n : Nat} (h : Calm S n) {i : Int} {s : List UInt8} (hb : i < 0 ∨ (n : Int) ≤ i ∨ 64 < s.length) : writeD S i s = (91, S) := by
  unfold writeD; rw [if_neg (by rw [h.1]; simp), h.2.2, if_pos hb]
theorem calm_write {S : DSt} {n : Nat} (h : Calm S n) {i : Int} {s : List UInt8} (hb : ¬ (i < 0 ∨ (n : Int) ≤ i ∨ 64 < s.length)) : writeD S i s = (0, { putD S i.toNat s with calls := S.calls + 1 }) ∧ Calm { putD S i.toNat s with calls := S.calls + 1 } n := by
  have hc : Calm (putD S i.toNat s) n := h
  have e := calm_count hc
  refine ⟨?_, h⟩
  unfold writeD
  rw [if_neg (by rw [h.1]; simp), h.2.2, if_neg hb, e]
  rfl
theorem calm_flush {S : DSt} {n : Nat} (h : Calm S n) : flushD S = (0, settleD { S with calls := S.calls + 1 }) ∧ Calm (settleD { S with calls := S.calls + 1 }) n := by
  refine ⟨?_, h⟩
  unfold flushD
  rw [if_neg (by rw [h.1]; simp), calm_count h]
  rfl
theorem calm_read {S : DSt} {n : Nat} (h : Calm S n) {i : Int} (hb : ¬ (i < 0 ∨ (n : Int) ≤ i)) : readD S i = ((S.wt i.toNat).getLastD (S.is i.toNat), 0) := by
  unfold readD; rw [if_neg (by rw [h.1]; simp), h.2.2, if_neg hb]
theorem calm_write_any {S : DSt} {n : Nat} (h : Calm S n) (i : Int) (s : List UInt8) : Calm (writeD S i s).2 n ∧ (writeD S i s).2.is = S.is ∧ (∀ j : Nat, (writeD S i s).1 ≠ 0 ∨ (j : Int) ≠ i → (writeD S i s).2.wt j = S.wt j) ∧ ((writeD S i s).1 = 91 ∨ ((writeD S i s).1 = 0 ∧ 0 ≤ i ∧ i < n ∧ (writeD S i s).2.wt i.toNat = S.wt i.toNat ++ [s])) := by
  by_cases hb : i < 0 ∨ (n : Int) ≤ i ∨ 64 < s.length
  · rw [calm_write_bad h hb]
    exact ⟨h, rfl, fun _ _ => rfl, .inl rfl⟩
  · obtain ⟨e, hc⟩ := calm_write h hb
    rw [e]
    refine ⟨hc, rfl, fun j hj => ?_, .inr ⟨rfl, by omega, by omega, by simp [putD, updW]⟩⟩
    rcases hj with hj | hj
    · exact absurd rfl hj
    · show updW S.wt i.toNat _ j = _
      unfold updW
      rw [if_neg (by omega)]
/-- What is read of a sector. -/
def topD (S : DSt) (k : Nat) : List UInt8 := (S.wt k).getLastD (S.is k)
theorem top_put_same (S : DSt) (i c : Nat) (s : List UInt8) : topD { putD S i s with calls := c } i = s := by simp [topD, putD, updW]
theorem top_put_other (S : DSt) {i k : Nat} (c : Nat) (s : List UInt8) (h : k ≠ i) : topD { putD S i s with calls := c } k = topD S k := by simp [topD, putD, updW, h]
theorem top_settle (S : DSt) (c k : Nat) : topD (settleD { S with calls := c }) k = topD S k := by simp [topD, settleD]
/-- Behind a crash, with power again. -/
def fellD (S : DSt) (keep : Nat) : DSt := powerD (downD S keep)
theorem calm_fell {S : DSt} {n : Nat} (h : Calm S n) (keep : Nat) : (downD S keep).gone = true ∧ Calm (fellD S keep) n ∧ (fellD S keep).is = fallen keep S.is S.wt ∧ (fellD S keep).wt = fun _ => [] := by
  have e : downD S keep = { S with is := fallen keep S.is S.wt, wt := fun _ => [], gone := true, left := 0 } := by unfold downD; rw [if_neg (by rw [h.1]; simp)]
  unfold fellD
  rw [e]
  exact ⟨rfl, ⟨rfl, rfl, h.2.2⟩, rfl, rfl⟩
theorem fallen_nil {keep : Nat} {is : Nat → List UInt8} {wt : Nat → List (List UInt8)} {i : Nat} (h : wt i = []) : fallen keep is wt i = is i := by unfold fallen; rw [if_pos h]
/-- A fallen sector is as it lasted, or as one of the writes has it. -/
theorem fallen_one (keep : Nat) (is : Nat → List UInt8) (wt : Nat → List (List UInt8)) (i : Nat) : fallen keep is wt i = is i ∨ fallen keep is wt i ∈ wt i := by
  unfold fallen keptD
  split
  · exact .inl rfl
  · split
    · exact .inl rfl
    · rename_i h1 h2
      have hp := pickN_le keep (rank wt i) (wt i).length
      have hl := List.length_pos_iff.2 h1
      right
      rw [List.getD_eq_getElem?_getD, List.getElem?_eq_getElem (by omega)]
      exact List.getElem_mem _
theorem fallen_zero (is : Nat → List UInt8) (wt : Nat → List (List UInt8)) (i : Nat) : fallen 0 is wt i = is i := by
  unfold fallen keptD pickN
  simp
/-! an order: the k-th call is the last one -/
/-- j calls have counted, the k-th one being the last. -/
def CutInv (k j : Nat) (S : DSt) : Prop := S.n = 8 ∧ ((k = 0 ∨ j < k) → S.gone = false ∧ S.left = k - j ∧ S.calls = j) ∧ ((0 < k ∧ k ≤ j) → S.gone = true ∧ S.calls = k)
theorem cut_start (k keep : Nat) : CutInv k 0 (cutD (newD 8) (k : Int) keep) :=
  ⟨by show (newD 8).n = 8; decide, fun _ => ⟨rfl, by simp [cutD], rfl⟩, fun h => by omega⟩
theorem cut_count {k j : Nat} {S : DSt} (h : CutInv k j S) (hj : k = 0 ∨ j < k) : (countD S).1 = decide (k = j + 1) ∧ CutInv k (j + 1) (countD S).2 := by
  obtain ⟨h0, h1, _⟩ := h
  obtain ⟨g, l, c⟩ := h1 hj
  unfold countD
  by_cases h2 : S.left = 0
  · rw [if_pos h2]
    have : k = 0 := by omega
    subst this
    exact ⟨by simp, h0, fun _ => ⟨g, by simp at l ⊢; exact l, by simp [c]⟩, fun h => by omega⟩
  · rw [if_neg h2]
    by_cases h3 : S.left = 1
    · rw [if_pos h3]
      have e : k = j + 1 := by omega
      refine ⟨by simp [e], ?_⟩
      have e2 : downD { S with calls := S.calls + 1, left := 0 } S.keep = { S with calls := S.calls + 1, is := fallen S.keep S.is S.wt, wt := fun _ => [], gone := true, left := 0 } := by unfold downD; rw [if_neg (by simp [g])]
      simp only [e2]
      exact ⟨h0, fun h => by omega, fun _ => ⟨rfl, by simp [c, e]⟩⟩
    · rw [if_neg h3]
      refine ⟨by simp; omega, h0, fun _ => ⟨g, by simp; omega, by simp [c]⟩, fun h => by omega⟩
/-- One call more, a Flush. -/
theorem cut_flush {k j : Nat} {S : DSt} (h : CutInv k j S) : (flushD S).1 = (if 0 < k ∧ k ≤ j + 1 then 90 else 0) ∧ CutInv k (j + 1) (flushD S).2 := by
  by_cases hg : 0 < k ∧ k ≤ j
  · obtain ⟨h0, _, h2⟩ := h
    obtain ⟨g, c⟩ := h2 hg
    unfold flushD
    rw [if_pos g, if_pos (by omega)]
    exact ⟨rfl, h0, fun h => by omega, fun _ => ⟨g, c⟩⟩
  · have hj : k = 0 ∨ j < k := by omega
    obtain ⟨e1, e2⟩ := cut_count h hj
    have g := (h.2.1 hj).1
    unfold flushD
    rw [if_neg (by rw [g]; simp), e1]
    by_cases hk : k = j + 1
    · rw [if_pos (by simpa using hk), if_pos (by omega)]
      exact ⟨rfl, e2⟩
    · rw [if_neg (by simpa using hk), if_neg (by omega)]
      exact ⟨rfl, e2⟩
theorem cut_put {k j i : Nat} {s : List UInt8} {S : DSt} (h : CutInv k j S) : CutInv k j (putD S i s) := h
/-- A Write. -/
theorem cut_write {k j : Nat} {S : DSt} (h : CutInv k j S) {i : Int} {s : List UInt8} (hi : ¬ (i < 0 ∨ (8 : Int) ≤ i ∨ 64 < s.length)) : (writeD S i s).1 = (if 0 < k ∧ k ≤ j + 1 then 90 else 0) ∧ CutInv k (j + 1) (writeD S i s).2 := by
  have h0 := h.1
  by_cases hg : 0 < k ∧ k ≤ j
  · obtain ⟨g, c⟩ := h.2.2 hg
    unfold writeD
    rw [if_pos g, if_pos (by omega)]
    exact ⟨rfl, h0, fun h => by omega, fun _ => ⟨g, c⟩⟩
  · have hj : k = 0 ∨ j < k := by omega
    obtain ⟨e1, e2⟩ := cut_count (cut_put (i := i.toNat) (s := s) h) hj
    have g := (h.2.1 hj).1
    unfold writeD
    rw [if_neg (by rw [g]; simp), h0, if_neg (by simpa using hi), e1]
    by_cases hk : k = j + 1
    · rw [if_pos (by simpa using hk), if_pos (by omega)]
      exact ⟨rfl, e2⟩
    · rw [if_neg (by simpa using hk), if_neg (by omega)]
      exact ⟨rfl, e2⟩
theorem down_gone (S : DSt) (keep : Nat) : (downD S keep).gone = true ∧ (downD S keep).n = S.n := by
  unfold downD
  split
  · rename_i h; exact ⟨h, rfl⟩
  · exact ⟨rfl, rfl⟩
theorem calm_power {S : DSt} {n : Nat} (h : S.n = n) : Calm (powerD S) n := ⟨rfl, rfl, h⟩
end Go.Proofs.Ytndmndchbfmppaa
