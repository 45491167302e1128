/-
  Layer 9 (block): of more writes than four that wait the program keeps the first three and the last one; nobody sees the difference. Which sectors wait, as a list. Plain. No program is named.
-/
import Derived.Test.YtndmndchbfmppaaBlockPure
import Derived.Test.YtndmndchbfmppaaBlockFacts
namespace Go.Proofs.Ytndmndchbfmppaa
set_option linter.unusedVariables false
set_option linter.unusedSimpArgs false
def short (l : List (List UInt8)) : List (List UInt8) := if l.length ≤ 4 then l else l.take 3 ++ l.drop (l.length - 1)
/-- What is left of a row ahead of one more. -/
def room (l : List (List UInt8)) : List (List UInt8) := if l.length = 4 then l.take 3 else l
theorem short_nil : short [] = [] := rfl
theorem short_len (l : List (List UInt8)) : (short l).length ≤ 4 ∧ (l.length ≤ 4 → (short l).length = l.length) ∧ (4 ≤ l.length → (short l).length = 4) := by
  unfold short
  split
  · exact ⟨by assumption, fun _ => rfl, fun _ => by omega⟩
  · simp only [List.length_append, List.length_take, List.length_drop]
    exact ⟨by omega, fun _ => by omega, fun _ => by omega⟩
theorem short_eq_nil {l : List (List UInt8)} : short l = [] ↔ l = [] := by
  have h := short_len l
  constructor
  · intro e
    rw [e] at h
    simp only [List.length_nil] at h
    exact List.length_eq_zero_iff.1 (by omega)
  · rintro rfl; rfl
theorem room_len (l : List (List UInt8)) (h : l.length ≤ 4) : (room l).length ≤ 3 := by
  unfold room
  split
  · rw [List.length_take]; omega
  · omega
theorem short_put (l : List (List UInt8)) (s : List UInt8) : short (l ++ [s]) = room (short l) ++ [s] := by
  have h := short_len l
  by_cases h4 : l.length ≤ 3
  · have e1 : short l = l := by unfold short; rw [if_pos (by omega)]
    have e2 : room l = l := by unfold room; rw [if_neg (by omega)]
    have e3 : short (l ++ [s]) = l ++ [s] := by unfold short; rw [if_pos (by simp; omega)]
    rw [e1, e2, e3]
  · have e1 : room (short l) = (short l).take 3 := by unfold room; rw [if_pos (h.2.2 (by omega))]
    have e2 : (short l).take 3 = l.take 3 := by
      unfold short
      split
      · rfl
      · rw [List.take_append_of_le_length (by rw [List.length_take]; omega), List.take_take]; simp
    have e3 : short (l ++ [s]) = l.take 3 ++ [s] := by
      unfold short
      rw [if_neg (by simp; omega), List.take_append_of_le_length (by omega)]
      congr 1
      simp
    rw [e1, e2, e3]
theorem short_last (l : List (List UInt8)) (x : List UInt8) : (short l).getLastD x = l.getLastD x := by
  rcases List.eq_nil_or_concat l with rfl | ⟨m, s, rfl⟩
  · rfl
  · rw [List.concat_eq_append, short_put]
    simp
theorem short_get (l : List (List UInt8)) (k : Nat) (h : k < 3) (d : List UInt8) : (short l).getD k d = l.getD k d := by
  unfold short
  split
  · rfl
  · rw [List.getD_eq_getElem?_getD, List.getD_eq_getElem?_getD, List.getElem?_append_left (by rw [List.length_take]; omega), List.getElem?_take_of_lt h]
theorem pickN_short (keep j : Nat) (l : List (List UInt8)) : pickN keep j (short l).length = pickN keep j l.length := by
  have h := short_len l
  by_cases h4 : l.length ≤ 4
  · rw [h.2.1 h4]
  · rw [h.2.2 (by omega)]
    unfold pickN
    have := Nat.mod_lt (keep / 2 ^ (2 * (j % 32))) (show 0 < 4 by omega)
    generalize keep / 2 ^ (2 * (j % 32)) % 4 = y at this ⊢
    rw [Nat.mod_eq_of_lt (show y < 4 + 1 by omega), Nat.mod_eq_of_lt (show y < l.length + 1 by omega)]
theorem pickN_small (keep j m : Nat) : pickN keep j m < 4 := by
  unfold pickN
  have := Nat.mod_lt (keep / 2 ^ (2 * (j % 32))) (show 0 < 4 by omega)
  exact Nat.lt_of_le_of_lt (Nat.mod_le _ _) this
theorem kept_short (keep j : Nat) (s : List UInt8) (l : List (List UInt8)) : keptD keep j s (short l) = keptD keep j s l := by
  unfold keptD
  rw [pickN_short]
  split
  · rfl
  · have := pickN_small keep j l.length
    exact short_get _ _ (by omega) _
/-- The sectors for which something waits, rising. -/
def waitL (wt : Nat → List (List UInt8)) (n : Nat) : List Nat := (List.range n).filter fun i => decide (wt i ≠ [])
theorem mem_waitL {wt : Nat → List (List UInt8)} {n i : Nat} : i ∈ waitL wt n ↔ i < n ∧ wt i ≠ [] := by simp [waitL]
theorem rank_len (wt : Nat → List (List UInt8)) (i : Nat) : rank wt i = (waitL wt i).length := by
  induction i with
  | zero => rfl
  | succ i ih =>
    unfold rank waitL
    rw [List.range_succ, List.filter_append, List.length_append, ih]
    by_cases e : wt i = []
    · simp [e, waitL]
    · simp [e, waitL]
theorem waitL_split (wt : Nat → List (List UInt8)) {i n : Nat} (hi : i < n) : ∃ r, waitL wt n = waitL wt i ++ (if wt i = [] then [] else [i]) ++ r := by
  induction n with
  | zero => omega
  | succ n ih =>
    have e : waitL wt (n + 1) = waitL wt n ++ (if wt n = [] then [] else [n]) := by
      unfold waitL
      rw [List.range_succ, List.filter_append]
      by_cases e : wt n = [] <;> simp [e]
    by_cases h : i = n
    · subst h; exact ⟨[], by rw [e]; simp⟩
    · obtain ⟨r, hr⟩ := ih (by omega)
      exact ⟨r ++ (if wt n = [] then [] else [n]), by rw [e, hr]; simp [List.append_assoc]⟩
theorem waitL_rank {wt : Nat → List (List UInt8)} {i n : Nat} (hi : i < n) (hw : wt i ≠ []) : (waitL wt n)[rank wt i]? = some i := by
  obtain ⟨r, hr⟩ := waitL_split wt hi
  rw [hr, if_neg hw, rank_len, List.append_assoc, List.getElem?_append_right (Nat.le_refl _)]
  simp
theorem waitL_nodup (wt : Nat → List (List UInt8)) (n : Nat) : (waitL wt n).Nodup := List.nodup_range.filter _
theorem waitL_sorted (wt : Nat → List (List UInt8)) (n : Nat) : (waitL wt n).Pairwise (· < ·) := (List.pairwise_lt_range).filter _
theorem rank_of_waitL {wt : Nat → List (List UInt8)} {n j i : Nat} (h : (waitL wt n)[j]? = some i) : i < n ∧ wt i ≠ [] ∧ rank wt i = j := by
  have hm := mem_waitL.1 (List.mem_of_getElem? h)
  have h2 := waitL_rank hm.1 hm.2
  obtain ⟨hj, e1⟩ := List.getElem?_eq_some_iff.1 h
  obtain ⟨hr, e2⟩ := List.getElem?_eq_some_iff.1 h2
  exact ⟨hm.1, hm.2, by
    have hp := List.pairwise_iff_getElem.1 (waitL_sorted wt n)
    rcases Nat.lt_trichotomy (rank wt i) j with h | h | h
    · have := hp _ _ hr hj h; omega
    · exact h
    · have := hp _ _ hj hr h; omega⟩
theorem rank_lt_len {wt : Nat → List (List UInt8)} {n i : Nat} (hi : i < n) (hw : wt i ≠ []) : rank wt i < (waitL wt n).length := (List.getElem?_eq_some_iff.1 (waitL_rank hi hw)).1
theorem waitL_len (wt : Nat → List (List UInt8)) (n : Nat) : (waitL wt n).length ≤ n := by
  have := List.length_filter_le (fun i => decide (wt i ≠ [])) (List.range n)
  rw [List.length_range] at this
  exact this
/-- A list of the same numbers, each once, is that list when it is sorted. -/
theorem sorted_is {ss : List Int} {K : List Nat} (hs : ss.Nodup) (hK : K.Pairwise (· < ·)) (hm : ∀ x : Int, x ∈ ss ↔ ∃ i ∈ K, x = (i : Int)) : ss.mergeSort (fun x y => decide (x ≤ y)) = K.map fun (i : Nat) => (i : Int) := by
  have hp := List.mergeSort_perm ss (fun x y => decide (x ≤ y))
  have hq : (ss.mergeSort fun x y => decide (x ≤ y)).Pairwise (fun x y => decide (x ≤ y) = true) := List.pairwise_mergeSort (fun a b c h1 h2 => by simp only [decide_eq_true_eq] at *; omega) (fun a b => by simp only [Bool.or_eq_true, decide_eq_true_eq]; omega) ss
  have hn : (K.map fun (i : Nat) => (i : Int)).Nodup := by
    refine List.Pairwise.map _ (fun a b h => ?_) hK
    omega
  have hK2 : (K.map fun (i : Nat) => (i : Int)).Pairwise (fun x y => decide (x ≤ y) = true) := by
    refine List.Pairwise.map _ (fun a b h => ?_) hK
    simp; omega
  have hperm : ss.Perm (K.map fun (i : Nat) => (i : Int)) := by
    refine (List.perm_ext_iff_of_nodup hs hn).2 fun x => ?_
    rw [hm x, List.mem_map]
    constructor
    · rintro ⟨i, h1, rfl⟩; exact ⟨i, h1, rfl⟩
    · rintro ⟨i, h1, rfl⟩; exact ⟨i, h1, rfl⟩
  refine List.Perm.eq_of_pairwise (le := fun a b => decide (a ≤ b) = true) (fun a b _ _ h1 h2 => ?_) hq hK2 (hp.trans hperm)
  simp only [decide_eq_true_eq] at h1 h2
  omega
/-- On the way of a crash: the first j of those that wait have fallen. -/
def fallS (keep : Nat) (S : DSt) (j i : Nat) : List UInt8 := if S.wt i ≠ [] ∧ rank S.wt i < j then fallen keep S.is S.wt i else S.is i
theorem fallS_zero (keep : Nat) (S : DSt) (i : Nat) : fallS keep S 0 i = S.is i := by unfold fallS; rw [if_neg (by omega)]
theorem fallS_all (keep : Nat) (S : DSt) (hout : ∀ j, S.n ≤ j → S.wt j = []) (i : Nat) : fallS keep S (waitL S.wt S.n).length i = fallen keep S.is S.wt i := by
  unfold fallS
  split
  · rfl
  · rename_i h
    by_cases e : S.wt i = []
    · unfold fallen; rw [if_pos e]
    · have hi : i < S.n := by
        rcases Nat.lt_or_ge i S.n with h | h
        · exact h
        · exact absurd (hout i h) e
      exact absurd ⟨e, rank_lt_len hi e⟩ h
theorem fallS_step (keep : Nat) (S : DSt) {j k : Nat} (h : (waitL S.wt S.n)[j]? = some k) (i : Nat) : fallS keep S (j + 1) i = if i = k then keptD keep j (S.is k) (short (S.wt k)) else fallS keep S j i := by
  obtain ⟨h1, h2, h3⟩ := rank_of_waitL h
  by_cases e : i = k
  · subst e
    rw [if_pos rfl]
    unfold fallS
    rw [if_pos ⟨h2, by omega⟩]
    unfold fallen
    rw [if_neg h2, h3, kept_short]
  · rw [if_neg e]
    unfold fallS
    by_cases hw : S.wt i = []
    · simp [hw]
    · have hne : rank S.wt i ≠ j := by
        intro hr
        by_cases hi : i < S.n
        · have h4 := waitL_rank hi hw
          rw [hr, h] at h4
          exact e (Option.some.inj h4).symm
        · have hle : (waitL S.wt i).length ≤ j := by rw [← rank_len]; omega
          obtain ⟨hj, _⟩ := List.getElem?_eq_some_iff.1 h
          obtain ⟨r, hr2⟩ := waitL_split S.wt (show k < i by omega)
          have h5 := waitL_rank (wt := S.wt) (n := i) (show k < i by omega) h2
          have := rank_lt_len (wt := S.wt) (n := i) (show k < i by omega) h2
          omega
      by_cases hlt : rank S.wt i < j
      · rw [if_pos ⟨hw, by omega⟩, if_pos ⟨hw, hlt⟩]
      · rw [if_neg (by omega), if_neg (by omega)]
theorem fallS_at (keep : Nat) (S : DSt) {j k : Nat} (h : (waitL S.wt S.n)[j]? = some k) : fallS keep S j k = S.is k := by
  obtain ⟨h1, h2, h3⟩ := rank_of_waitL h
  unfold fallS
  rw [if_neg (by omega)]
theorem kept_len {keep j : Nat} {s : List UInt8} {l : List (List UInt8)} (hs : s.length ≤ 64) (hl : ∀ x ∈ l, x.length ≤ 64) : (keptD keep j s l).length ≤ 64 := by
  unfold keptD
  split
  · exact hs
  · rename_i h
    have := pickN_le keep j l.length
    rw [List.getD_eq_getElem?_getD, List.getElem?_eq_getElem (by omega)]
    exact hl _ (List.getElem_mem _)
theorem fallS_len (keep : Nat) (S : DSt) (hi : ∀ j, (S.is j).length ≤ 64) (hw : ∀ j, ∀ x ∈ S.wt j, x.length ≤ 64) (j i : Nat) : (fallS keep S j i).length ≤ 64 := by
  unfold fallS fallen
  split
  · split
    · exact hi i
    · exact kept_len (hi i) (hw i)
  · exact hi i
end Go.Proofs.Ytndmndchbfmppaa
