/-
  An argument that is a slice of steps (layer 9): its cells, read off what the statement gives.
-/
import Derived.Test.YtndmndchbfmppaaRows
import Derived.Test.YtndmndchbfmppaaBlockStep
import Derived.ProofKit
import Derived.OpenShut
import Derived.Deep.Slices
import Derived.Deep.Fields
import Derived.ChangeSame
namespace Go.Proofs.Ytndmndchbfmppaa
open Go.ChangeShapes Go.WideShapes Go.ChangeAt Go.RowKit Go.Deep
theorem bst_cells : Try.prog.cellsOf 36 = 4 := by kernel_rfl
theorem bst_int : Try.prog.cellsOf 3 = 1 := by kernel_rfl
theorem bst_u64 : Try.prog.cellsOf 31 = 1 := by kernel_rfl
theorem bst_str : Try.prog.cellsOf 9 = 1 := by kernel_rfl
section
variable {H : Type} {enc : TypeId × Value → H} {w : World} {base : Nat} {spare : Nat → Bool} {held : Bool}
set_option maxRecDepth 100000 in
/-- One step's four cells. -/
theorem open_bstp {fuel : Nat} {cs : List Value} {x : DataW H × List MemPlace} (h : DataW.trod enc Try.prog w base spare held fuel 36 cs = some x) :
    ∃ z : BStp, cs = [.int .i64 z.1, .int .i64 z.2.1, .string (str z.2.2.1), .int .u64 (z.2.2.2 : Int)] ∧
      (z.2.2.1.length ≤ 9223372036854775807 ∧ z.2.2.2 < 18446744073709551616 ∧ -9223372036854775808 ≤ z.1 ∧ z.1 ≤ 9223372036854775807 ∧ -9223372036854775808 ≤ z.2.1 ∧ z.2.1 ≤ 9223372036854775807) := by
  obtain ⟨ys, fu, _, _, hlen, hyl, hf⟩ := DataW.trod_struct Try.underlying36 h
  rw [bst_cells] at hlen
  match cs, hlen with
  | [c0, c1, c2, c3], _ =>
    match ys, hyl with
    | [y0, y1, y2, y3], _ =>
      have h0 : DataW.trod enc Try.prog w base spare held fu 3 (([c0, c1, c2, c3].drop 0).take (Try.prog.cellsOf 3)) = some y0 := hf 0 _ rfl
      have h1 : DataW.trod enc Try.prog w base spare held fu 3 (([c0, c1, c2, c3].drop 1).take (Try.prog.cellsOf 3)) = some y1 := hf 1 _ rfl
      have h2 : DataW.trod enc Try.prog w base spare held fu 9 (([c0, c1, c2, c3].drop 2).take (Try.prog.cellsOf 9)) = some y2 := hf 2 _ rfl
      have h3 : DataW.trod enc Try.prog w base spare held fu 31 (([c0, c1, c2, c3].drop 3).take (Try.prog.cellsOf 31)) = some y3 := hf 3 _ rfl
      rw [bst_int] at h0 h1
      rw [bst_str] at h2
      rw [bst_u64] at h3
      obtain ⟨a, e0, _, w0⟩ := DataW.trod_int Try.underlying3 h0
      obtain ⟨b, e1, _, w1⟩ := DataW.trod_int Try.underlying3 h1
      obtain ⟨s, e2, _, w2⟩ := DataW.trod_string Try.underlying9 h2
      obtain ⟨k, e3, _, w3⟩ := DataW.trod_int Try.underlying31 h3
      obtain ⟨s, rfl⟩ := str_of s
      rw [str_size] at w2
      unfold maxLen at w2
      obtain ⟨b0, b1⟩ := bounds_i64 w0
      obtain ⟨b2, b3⟩ := bounds_i64 w1
      obtain ⟨b4, b5⟩ := bounds_u64 w3
      obtain ⟨k, rfl⟩ : ∃ m : Nat, k = m := ⟨k.toNat, by omega⟩
      simp at e0 e1 e2 e3
      subst e0 e1 e2 e3
      exact ⟨(a, b, s, k), rfl, by omega, by show k < _; omega, b0, b1, b2, b3⟩
theorem open_bsteps {fuel : Nat} {a0 : Option Addr} {len cap : Nat} {x : DataW H × List MemPlace} (h : DataW.trod enc Try.prog w base spare held fuel 22 [.slice a0 len cap] = some x) :
    ∃ zs, BsAt w a0 len zs ∧ len ≤ maxLen := by
  rcases open_slice Try.underlying22 h with ⟨e, _⟩ | ⟨a, l, c, m, n, D, Pl, e, _, hlc, hcm, hm, _, hx⟩
  · simp at e
    obtain ⟨rfl, rfl, rfl⟩ := e
    exact ⟨[], BsAt.nil _ _, Nat.zero_le _⟩
  · simp at e
    obtain ⟨rfl, rfl, rfl⟩ := e
    have hlm : len ≤ m := by rw [hm]; split <;> omega
    have hall : ∀ i, i < len → ∃ z : BStp, (z.2.2.1.length ≤ 9223372036854775807 ∧ z.2.2.2 < 18446744073709551616 ∧ -9223372036854775808 ≤ z.1 ∧ z.1 ≤ 9223372036854775807 ∧ -9223372036854775808 ≤ z.2.1 ∧ z.2.1 ≤ 9223372036854775807) ∧
        (a.add (i * 4)).block < w.heap.size ∧ w.cell? (a.add (i * 4)) = some (.int .i64 z.1) ∧ w.cell? ⟨(a.add (i * 4)).block, (a.add (i * 4)).off + 1, none⟩ = some (.int .i64 z.2.1) ∧
        w.cell? ⟨(a.add (i * 4)).block, (a.add (i * 4)).off + 2, none⟩ = some (.string (str z.2.2.1)) ∧ w.cell? ⟨(a.add (i * 4)).block, (a.add (i * 4)).off + 3, none⟩ = some (.int .u64 (z.2.2.2 : Int)) := by
      intro i hi
      obtain ⟨cs', hc, ht⟩ := hx i (by omega)
      obtain ⟨z, rfl, b⟩ := open_bstp ht
      rw [bst_cells] at hc
      obtain ⟨_, _, hat⟩ := World.cells?_some hc
      have c0 := hat 0 (by omega)
      have c1 := hat 1 (by omega)
      have c2 := hat 2 (by omega)
      have c3 := hat 3 (by omega)
      exact ⟨z, b, World.block_lt_of_cell? w _ c0, c0, c1, c2, c3⟩
    obtain ⟨f, hf⟩ := choose_lt (α := BStp) hall
    refine ⟨(List.range len).map f, ⟨by simp, fun i h => ?_⟩, by omega⟩
    have hi : i < len := by simpa using h
    have := hf i hi
    simp only [List.getElem_map, List.getElem_range]
    exact ⟨this.1, a, rfl, this.2⟩
end
end Go.Proofs.Ytndmndchbfmppaa
