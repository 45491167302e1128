/-
  An argument that is a slice of labels: its cells, read off what the statement gives.
-/
import Derived.Test.YtopnnhjfcfhihaaDoorLabelMem
import Derived.ProofKit
import Derived.OpenShut
import Derived.Deep.Slices
import Derived.Deep.Fields
import Derived.ChangeSame
namespace Go.Proofs.YtopnnhjfcfhihaaDoor
open Go.ChangeShapes Go.WideShapes Go.ChangeAt Go.RowKit Go.Deep

theorem lab_str : Tryd.prog.cellsOf 9 = 1 := by kernel_rfl
section
variable {H : Type} {enc : TypeId × Value → H} {w : World} {base : Nat} {spare : Nat → Bool} {held : Bool}
set_option maxRecDepth 100000 in
/-- One label's two cells. -/
theorem open_lab {fuel : Nat} {cs : List Value} {x : DataW H × List MemPlace} (h : DataW.trod enc Tryd.prog w base spare held fuel 40 cs = some x) :
    ∃ (a k : List UInt8), cs = [.string (str a), .string (str k)] ∧ a.length ≤ 9223372036854775807 ∧ k.length ≤ 9223372036854775807 := by
  obtain ⟨ys, m, _, _, hlen, hyl, hf⟩ := DataW.trod_struct Tryd.underlying40 h
  rw [lab_cells] at hlen
  match cs, hlen with
  | [c0, c1], _ =>
    match ys, hyl with
    | [y0, y1], _ =>
      have h0 : DataW.trod enc Tryd.prog w base spare held m 9 (([c0, c1].drop 0).take (Tryd.prog.cellsOf 9)) = some y0 := hf 0 _ rfl
      have h1 : DataW.trod enc Tryd.prog w base spare held m 9 (([c0, c1].drop 1).take (Tryd.prog.cellsOf 9)) = some y1 := hf 1 _ rfl
      rw [lab_str] at h0 h1
      obtain ⟨a, e0, _, w0⟩ := DataW.trod_string Tryd.underlying9 h0
      obtain ⟨k, e1, _, w1⟩ := DataW.trod_string Tryd.underlying9 h1
      obtain ⟨a, rfl⟩ := str_of a
      obtain ⟨k, rfl⟩ := str_of k
      rw [str_size] at w0 w1
      unfold maxLen at w0 w1
      simp at e0 e1
      subst e0 e1
      exact ⟨a, k, rfl, by omega, by omega⟩
theorem open_labs {fuel : Nat} {a0 : Option Addr} {len cap : Nat} {x : DataW H × List MemPlace} (h : DataW.trod enc Tryd.prog w base spare held fuel 23 [.slice a0 len cap] = some x) :
    ∃ zs, LAt w a0 len zs ∧ len ≤ maxLen := by
  rcases open_slice Tryd.underlying23 h with ⟨e, _⟩ | ⟨a, l, c, m, n, D, Pl, e, _, hlc, hcm, hm, _, hx⟩
  · simp at e
    obtain ⟨rfl, rfl, rfl⟩ := e
    exact ⟨[], ⟨rfl, fun i h => by simp at h⟩, Nat.zero_le _⟩
  · simp at e
    obtain ⟨rfl, rfl, rfl⟩ := e
    have hlm : len ≤ m := by rw [hm]; split <;> omega
    have hall : ∀ i, i < len → ∃ z : Lab, z.1.length ≤ 9223372036854775807 ∧ z.2.length ≤ 9223372036854775807 ∧
        (a.add (i * 2)).block < w.heap.size ∧ w.cell? (a.add (i * 2)) = some (.string (str z.1)) ∧ w.cell? ⟨(a.add (i * 2)).block, (a.add (i * 2)).off + 1, none⟩ = some (.string (str z.2)) := by
      intro i hi
      obtain ⟨cs', hc, ht⟩ := hx i (by omega)
      obtain ⟨ka, kk, rfl, b1, b2⟩ := open_lab ht
      rw [lab_cells] at hc
      obtain ⟨_, _, hat⟩ := World.cells?_some hc
      have c0 := hat 0 (by omega)
      have c1 := hat 1 (by omega)
      exact ⟨(ka, kk), b1, b2, World.block_lt_of_cell? w _ c0, c0, c1⟩
    obtain ⟨f, hf⟩ := choose_lt (α := Lab) hall
    refine ⟨(List.range len).map f, ⟨by simp, fun i h => ?_⟩, by omega⟩
    have hi : i < len := by simpa using h
    have := hf i hi
    simp only [List.getElem_map, List.getElem_range]
    exact ⟨⟨this.1, this.2.1⟩, a, rfl, this.2.2⟩
end
end Go.Proofs.YtopnnhjfcfhihaaDoor
