/-
  Arguments that are slices of integers, and slices of these: their cells, read off what the statement gives.
-/
import Derived.Test.YtalhjejbaembbaaPostMem
import Derived.ProofKit
import Derived.OpenShut
import Derived.Deep.Slices
import Derived.Deep.Fields
import Derived.ChangeSame
namespace Go.Proofs.Ytalhjejbaembbaa
open Go.ChangeShapes Go.WideShapes Go.ChangeAt Go.RowKit Go.Deep
set_option linter.unusedVariables false

/-- A slice of slices of integers that was there. -/
def LsAt (w : World) (A : Option Addr) (len cap : Nat) (L : List (List Int)) : Prop :=
  len = L.length ∧ len ≤ cap ∧ ∀ i (h : i < L.length), ∃ ad Ai ci, A = some ad ∧ (ad.add i).block < w.heap.size ∧ w.cell? (ad.add i) = some (.slice Ai L[i].length ci) ∧ IAt w Ai L[i].length ci L[i] ∧ L[i].length ≤ maxLen
theorem LsAt.below {w w' : World} {A : Option Addr} {len cap : Nat} {L : List (List Int)} (h : LsAt w A len cap L) (hb : Below w.heap.size w w') : LsAt w' A len cap L :=
  ⟨h.1, h.2.1, fun i hi => by
    obtain ⟨ad, Ai, ci, rfl, h2, h3, h4, h5⟩ := h.2.2 i hi
    exact ⟨ad, Ai, ci, rfl, Nat.lt_of_lt_of_le h2 hb.size, (hb.cell (p := ad.add i) h2).trans h3, h4.below hb, h5⟩⟩
theorem one_int : Try.prog.cellsOf 3 = 1 := by kernel_rfl
theorem one_ints : Try.prog.cellsOf 22 = 1 := by kernel_rfl
theorem wf_bounds {a : Int} (h : (Lit.int .i64 a).wf = true) : -9223372036854775808 ≤ a ∧ a ≤ 9223372036854775807 := by
  have e : IntKind.i64.min = -9223372036854775808 := by decide
  unfold Lit.wf at h
  simp at h
  omega
section
variable {H : Type} {enc : TypeId × Value → H} {w : World} {base : Nat} {spare : Nat → Bool} {held : Bool}
theorem open_is0 {fuel : Nat} {cs : List Value} {x : DataW H × List MemPlace} (h : DataW.trod enc Try.prog w base spare held fuel 22 cs = some x) :
    ∃ A n c zs, cs = [.slice A n c] ∧ IAt w A n c zs ∧ n ≤ maxLen := by
  rcases open_ints Try.underlying22 Try.underlying3 one_int h with ⟨rfl, _⟩ | ⟨a, n, c, zs, rfl, _, hl, hm, hz, _, hcell, hwz⟩
  · exact ⟨none, 0, 0, [], rfl, IAt.nil _ _ _, Nat.zero_le _⟩
  · have hn : n ≤ zs.length := by rw [hz]; split <;> omega
    refine ⟨some a, n, c, zs.take n, rfl, ⟨by rw [List.length_take]; omega, hl, fun i hi => ?_⟩, by omega⟩
    have hi2 : i < n := by rw [List.length_take] at hi; omega
    have hi3 : i < zs.length := by omega
    have h1 := hcell i hi3
    have e : (zs.take n)[i] = zs[i] := by simp
    rw [List.getD_eq_getElem?_getD, List.getElem?_eq_getElem hi3] at h1
    rw [e]
    exact ⟨wf_bounds (hwz _ (List.getElem_mem hi3)), a, rfl, World.block_lt_of_cell? w _ h1, h1⟩
theorem open_is {fuel : Nat} {a0 : Option Addr} {len cap : Nat} {x : DataW H × List MemPlace} (h : DataW.trod enc Try.prog w base spare held fuel 22 [.slice a0 len cap] = some x) :
    ∃ zs, IAt w a0 len cap zs ∧ len ≤ maxLen := by
  obtain ⟨A, n, c, zs, e, hI, hn⟩ := open_is0 h
  simp at e
  obtain ⟨rfl, rfl, rfl⟩ := e
  exact ⟨zs, hI, hn⟩
theorem open_lists {fuel : Nat} {a0 : Option Addr} {len cap : Nat} {x : DataW H × List MemPlace} (h : DataW.trod enc Try.prog w base spare held fuel 29 [.slice a0 len cap] = some x) :
    ∃ zs, LsAt w a0 len cap zs ∧ len ≤ maxLen := by
  rcases open_slice1 Try.underlying29 one_ints h with ⟨e, _⟩ | ⟨a, l, c, m, n, V, D, Pl, e, _, hlc, hcm, hm, _, hx⟩
  · simp at e
    obtain ⟨rfl, rfl, rfl⟩ := e
    exact ⟨[], ⟨rfl, Nat.le_refl _, fun i h => by simp at h⟩, Nat.zero_le _⟩
  · simp at e
    obtain ⟨rfl, rfl, rfl⟩ := e
    have hlm : len ≤ m := by rw [hm]; split <;> omega
    have hall : ∀ i, i < len → ∃ z : List Int, ∃ Ai ci, (a.add i).block < w.heap.size ∧ w.cell? (a.add i) = some (.slice Ai z.length ci) ∧ IAt w Ai z.length ci z ∧ z.length ≤ maxLen := by
      intro i hi
      obtain ⟨hc, ht⟩ := hx i (by omega)
      obtain ⟨A, n', c', zs, e, hI, hn⟩ := open_is0 ht
      simp at e
      have hle := hI.1
      subst hle
      rw [e] at hc
      exact ⟨zs, A, c', World.block_lt_of_cell? w _ hc, hc, hI, hn⟩
    obtain ⟨f, hf⟩ := choose_lt (α := List Int) hall
    refine ⟨(List.range len).map f, ⟨by simp, hlc, fun i h => ?_⟩, by omega⟩
    have hi : i < len := by simpa using h
    obtain ⟨Ai, ci, h1, h2, h3, h4⟩ := hf i hi
    simp only [List.getElem_map, List.getElem_range]
    exact ⟨a, Ai, ci, rfl, h1, h2, h3, h4⟩
end
end Go.Proofs.Ytalhjejbaembbaa
