/-
  Layer 4 (label): two runs of labels become one, plain. No program is named.
-/
import Derived.Test.YtopnnhjfcfhihaaLabelSort
namespace Go.Proofs.Ytopnnhjfcfhihaa
open Go.RowKit Go.Deep
set_option linter.unusedVariables false

/-- The label at place i. -/
def atN (l : List Lab) (i : Nat) : Lab := l.getD i ([], [])
theorem atN_get {l : List Lab} {i : Nat} (h : i < l.length) : atN l i = l[i] := by simp [atN, List.getD, h]
theorem atN_left {A B : List Lab} {i : Nat} (h : i < A.length) : atN (A ++ B) i = atN A i := by simp [atN, List.getD, List.getElem?_append_left h]
theorem atN_right {A B : List Lab} {i : Nat} (h : A.length ≤ i) : atN (A ++ B) i = atN B (i - A.length) := by simp [atN, List.getD, List.getElem?_append_right h]
theorem sorted_at {A : List Lab} (h : SortedN A) {i j : Nat} (hij : i ≤ j) (hj : j < A.length) : ltN (atN A j) (atN A i) = false := by
  rw [atN_get hj, atN_get (by omega)]
  by_cases he : i = j
  · subst he; exact ltN_irrefl _
  · exact List.pairwise_iff_getElem.1 h i j (by omega) hj (by omega)
theorem mem_take_at {A : List Lab} {k : Nat} {x : Lab} (h : x ∈ A.take k) : ∃ i, i < k ∧ i < A.length ∧ atN A i = x := by
  obtain ⟨i, hi, e⟩ := List.getElem_of_mem h
  rw [List.length_take] at hi
  rw [List.getElem_take] at e
  exact ⟨i, by omega, by omega, by rw [atN_get (by omega)]; exact e⟩
theorem mem_drop_at {A : List Lab} {k : Nat} {x : Lab} (h : x ∈ A.drop k) : ∃ i, k ≤ i ∧ i < A.length ∧ atN A i = x := by
  obtain ⟨i, hi, e⟩ := List.getElem_of_mem h
  rw [List.length_drop] at hi
  rw [List.getElem_drop] at e
  exact ⟨k + i, by omega, by omega, by rw [atN_get (by omega)]; exact e⟩
/-- Two halves, each in order, make the whole. -/
theorem merge_end {A C D1 D2 : List Lab} {s t : Nat} (hA : SortedN A) (hC : SortedN C) (h1 : s < A.length → 1 ≤ t → ltN (atN C (t - 1)) (atN A s) = true) (h2 : 1 ≤ s → t < C.length → ltN (atN C t) (atN A (s - 1)) = false) (hs : s ≤ A.length) (ht : t ≤ C.length)
    (d1 : SortedN D1) (e1 : Stb D1 (A.take s ++ C.take t)) (d2 : SortedN D2) (e2 : Stb D2 (A.drop s ++ C.drop t)) : SortedN (D1 ++ D2) ∧ Stb (D1 ++ D2) (A ++ C) := by
  have hvu : ∀ v ∈ C.take t, ∀ u ∈ A.drop s, ltN v u = true := by
    intro v hv u hu
    obtain ⟨i, hi, hi2, rfl⟩ := mem_take_at hv
    obtain ⟨j, hj, hj2, rfl⟩ := mem_drop_at hu
    have k1 := h1 (by omega) (by omega)
    have k2 := sorted_at hC (show i ≤ t - 1 by omega) (by omega)
    have k3 := sorted_at hA hj hj2
    exact leN_lt k2 (ltN_le k1 k3)
  constructor
  · refine List.pairwise_append.2 ⟨d1, d2, fun x hx y hy => ?_⟩
    have hx := e1.mem hx
    have hy := e2.mem hy
    rcases List.mem_append.1 hx with hx | hx
    · obtain ⟨i, hi, hi2, rfl⟩ := mem_take_at hx
      rcases List.mem_append.1 hy with hy | hy
      · obtain ⟨j, hj, hj2, rfl⟩ := mem_drop_at hy
        exact sorted_at hA (by omega) hj2
      · obtain ⟨j, hj, hj2, rfl⟩ := mem_drop_at hy
        have k1 := h2 (by omega) (by omega)
        have k2 := sorted_at hA (show i ≤ s - 1 by omega) (by omega)
        have k3 := sorted_at hC hj hj2
        exact leN_trans k2 (leN_trans k1 k3)
    · rcases List.mem_append.1 hy with hy | hy
      · exact ltN_asymm (hvu x hx y hy)
      · obtain ⟨i, hi, hi2, rfl⟩ := mem_take_at hx
        obtain ⟨j, hj, hj2, rfl⟩ := mem_drop_at hy
        exact sorted_at hC (by omega) hj2
  · have k := e1.append e2
    refine k.trans ?_
    have hsw : Stb (C.take t ++ A.drop s) (A.drop s ++ C.take t) := Stb.swap (fun x hx y hy => ltN_ne (hvu x hx y hy))
    have := Stb.append (Stb.append (Stb.refl (A.take s)) hsw) (Stb.refl (C.drop t))
    have e3 : A.take s ++ C.take t ++ (A.drop s ++ C.drop t) = A.take s ++ (C.take t ++ A.drop s) ++ C.drop t := by simp
    have e4 : A ++ C = A.take s ++ (A.drop s ++ C.take t) ++ C.drop t := by
      rw [← List.append_assoc (A.take s), List.take_append_drop, List.append_assoc, List.take_append_drop]
    rw [e3, e4]
    exact this
theorem sorted_take {A : List Lab} (h : SortedN A) (k : Nat) : SortedN (A.take k) := List.Pairwise.sublist (List.take_sublist k A) h
theorem sorted_drop {A : List Lab} (h : SortedN A) (k : Nat) : SortedN (A.drop k) := List.Pairwise.sublist (List.drop_sublist k A) h
theorem sorted_cons_drop {C : List Lab} {x : Lab} {k : Nat} (h : SortedN C) (hx : k < C.length → ltN (atN C k) x = false) : SortedN (x :: C.drop k) := by
  refine List.pairwise_cons.2 ⟨fun z hz => ?_, sorted_drop h k⟩
  obtain ⟨i, hi, hi2, rfl⟩ := mem_drop_at hz
  exact leN_trans (hx (by omega)) (sorted_at h hi hi2)
theorem sorted_take_snoc {A : List Lab} {x : Lab} {k : Nat} (h : SortedN A) (hk : k ≤ A.length) (hx : 1 ≤ k → ltN x (atN A (k - 1)) = false) : SortedN (A.take k ++ [x]) := by
  refine List.pairwise_append.2 ⟨sorted_take h k, by simp, fun y hy z hz => ?_⟩
  simp at hz; subst hz
  obtain ⟨i, hi, hi2, rfl⟩ := mem_take_at hy
  exact leN_trans (sorted_at h (show i ≤ k - 1 by omega) (by omega)) (hx (by omega))
/-- One label and a run. -/
theorem merge_first {C : List Lab} {x : Lab} {k : Nat} (hC : SortedN C) (hk : k ≤ C.length) (h1 : 1 ≤ k → ltN (atN C (k - 1)) x = true) (h2 : k < C.length → ltN (atN C k) x = false) : SortedN (C.take k ++ x :: C.drop k) ∧ Stb (C.take k ++ x :: C.drop k) ([x] ++ C) :=
  merge_end (A := [x]) (C := C) (s := 0) (t := k) (by simp [SortedN]) hC (fun _ h => h1 h) (fun h => by omega) (by simp) hk (sorted_take hC k) (by simpa using Stb.refl _) (sorted_cons_drop hC h2) (by simpa using Stb.refl _)
/-- A run and one label. -/
theorem merge_last {A : List Lab} {x : Lab} {k : Nat} (hA : SortedN A) (hk : k ≤ A.length) (h1 : 1 ≤ k → ltN x (atN A (k - 1)) = false) (h2 : k < A.length → ltN x (atN A k) = true) : SortedN (A.take k ++ x :: A.drop k) ∧ Stb (A.take k ++ x :: A.drop k) (A ++ [x]) := by
  have := merge_end (A := A) (C := [x]) (s := k) (t := 1) (D1 := A.take k ++ [x]) (D2 := A.drop k) hA (by simp [SortedN]) (fun h _ => h2 h) (fun _ h => by simp at h) hk (by simp) (sorted_take_snoc hA hk h1) (by simpa using Stb.refl _) (sorted_drop hA k) (by simpa using Stb.refl _)
  simpa using this
end Go.Proofs.Ytopnnhjfcfhihaa
