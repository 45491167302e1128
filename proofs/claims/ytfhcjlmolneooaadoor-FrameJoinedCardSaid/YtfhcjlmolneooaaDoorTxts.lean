/-
  An argument that is a slice of texts: its cells, read off what the statement gives.
-/
import Derived.Test.YtfhcjlmolneooaaDoorRows
import Derived.Test.YtfhcjlmolneooaaDoorTsMem
import Derived.ProofKit
import Derived.OpenShut
import Derived.Deep.Slices
import Derived.Deep.Fields
import Derived.ChangeSame
namespace Go.Proofs.YtfhcjlmolneooaaDoor
open Go.ChangeShapes Go.WideShapes Go.ChangeAt Go.RowKit Go.Deep
theorem one_txt : Tryd.prog.cellsOf 9 = 1 := by kernel_rfl
section
variable {H : Type} {enc : TypeId × Value → H} {w : World} {base : Nat} {spare : Nat → Bool} {held : Bool}
theorem open_txts {fuel : Nat} {a0 : Option Addr} {len cap : Nat} {x : DataW H × List MemPlace} (h : DataW.trod enc Tryd.prog w base spare held fuel 25 [.slice a0 len cap] = some x) :
    ∃ zs, TsAt w a0 len cap zs ∧ len ≤ maxLen := by
  rcases open_slice Tryd.underlying25 h with ⟨e, _⟩ | ⟨a, l, c, m, n, D, Pl, e, _, hlc, hcm, hm, _, hx⟩
  · simp at e
    obtain ⟨rfl, rfl, rfl⟩ := e
    exact ⟨[], TsAt.nil _ _ _, Nat.zero_le _⟩
  · simp at e
    obtain ⟨rfl, rfl, rfl⟩ := e
    have hlm : len ≤ m := by rw [hm]; split <;> omega
    have hall : ∀ i, i < len → ∃ z : List UInt8, z.length ≤ 9223372036854775807 ∧ (a.add i).block < w.heap.size ∧ w.cell? (a.add i) = some (.string (str z)) := by
      intro i hi
      obtain ⟨cs', hc, ht⟩ := hx i (by omega)
      rw [one_txt, Nat.mul_one] at hc
      obtain ⟨hlen, _, hat⟩ := World.cells?_some hc
      match cs', hlen with
      | [c0], _ =>
        obtain ⟨s, e0, _, w0⟩ := DataW.trod_string Tryd.underlying9 ht
        obtain ⟨s, rfl⟩ := str_of s
        rw [str_size] at w0
        unfold maxLen at w0
        simp at e0
        subst e0
        have c0 := hat 0 (by omega)
        exact ⟨s, by omega, World.block_lt_of_cell? w _ c0, c0⟩
    obtain ⟨f, hf⟩ := choose_lt (α := List UInt8) hall
    refine ⟨(List.range len).map f, ⟨by simp, hlc, fun i h => ?_⟩, by omega⟩
    have hi : i < len := by simpa using h
    have := hf i hi
    simp only [List.getElem_map, List.getElem_range]
    exact ⟨this.1, a, rfl, this.2⟩
end
end Go.Proofs.YtfhcjlmolneooaaDoor
