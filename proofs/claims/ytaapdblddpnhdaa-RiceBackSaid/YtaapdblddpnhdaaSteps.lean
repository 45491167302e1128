/-
  An argument that is a slice of calls (layer 2): its cells, read off what the statement gives.
-/
import Derived.Test.YtaapdblddpnhdaaRiceLawsC
import Derived.ProofKit
import Derived.OpenShut
import Derived.Deep.Slices
import Derived.Deep.Fields
import Derived.ChangeSame
namespace Go.Proofs.Ytaapdblddpnhdaa
open Go.ChangeShapes Go.WideShapes Go.ChangeAt Go.RowKit Go.Deep

theorem step_cells : Try.prog.cellsOf 29 = 3 := by kernel_rfl
theorem step_int : Try.prog.cellsOf 3 = 1 := by kernel_rfl
theorem step_u64 : Try.prog.cellsOf 27 = 1 := by kernel_rfl
section
variable {H : Type} {enc : TypeId × Value → H} {w : World} {base : Nat} {spare : Nat → Bool} {held : Bool}
/-- One call's three cells. -/
theorem open_stp {fuel : Nat} {cs : List Value} {x : DataW H × List MemPlace} (h : DataW.trod enc Try.prog w base spare held fuel 29 cs = some x) :
    ∃ (a : Int) (n : Nat) (k : Int), cs = [.int .i64 a, .int .u64 n, .int .i64 k] ∧ n < 18446744073709551616 ∧ -9223372036854775808 ≤ a ∧ a ≤ 9223372036854775807 ∧ -9223372036854775808 ≤ k ∧ k ≤ 9223372036854775807 := by
  obtain ⟨ys, m, _, _, hlen, hyl, hf⟩ := DataW.trod_struct Try.underlying29 h
  rw [step_cells] at hlen
  match cs, hlen with
  | [c0, c1, c2], _ =>
    match ys, hyl with
    | [y0, y1, y2], _ =>
      have h0 : DataW.trod enc Try.prog w base spare held m 3 (([c0, c1, c2].drop 0).take (Try.prog.cellsOf 3)) = some y0 := hf 0 _ rfl
      have h1 : DataW.trod enc Try.prog w base spare held m 27 (([c0, c1, c2].drop 1).take (Try.prog.cellsOf 27)) = some y1 := hf 1 _ rfl
      have h2 : DataW.trod enc Try.prog w base spare held m 3 (([c0, c1, c2].drop 2).take (Try.prog.cellsOf 3)) = some y2 := hf 2 _ rfl
      rw [step_int] at h0 h2
      rw [step_u64] at h1
      obtain ⟨a, e0, _, w0⟩ := DataW.trod_int Try.underlying3 h0
      obtain ⟨n, e1, _, w1⟩ := DataW.trod_int Try.underlying27 h1
      obtain ⟨k, e2, _, w2⟩ := DataW.trod_int Try.underlying3 h2
      obtain ⟨b0, b1⟩ := bounds_i64 w0
      obtain ⟨b2, b3⟩ := bounds_u64 w1
      obtain ⟨b4, b5⟩ := bounds_i64 w2
      obtain ⟨n, rfl⟩ : ∃ m : Nat, n = m := ⟨n.toNat, by omega⟩
      simp at e0 e1 e2
      subst e0 e1 e2
      exact ⟨a, n, k, rfl, by omega, b0, b1, b4, b5⟩
theorem open_stps {fuel : Nat} {a0 : Option Addr} {len cap : Nat} {x : DataW H × List MemPlace} (h : DataW.trod enc Try.prog w base spare held fuel 22 [.slice a0 len cap] = some x) :
    ∃ zs, StpsAt w a0 len zs ∧ len ≤ maxLen := by
  rcases open_slice Try.underlying22 h with ⟨e, _⟩ | ⟨a, l, c, m, n, D, Pl, e, _, hlc, hcm, hm, _, hx⟩
  · simp at e
    obtain ⟨rfl, rfl, rfl⟩ := e
    exact ⟨[], ⟨rfl, fun i h => by simp at h⟩, Nat.zero_le _⟩
  · simp at e
    obtain ⟨rfl, rfl, rfl⟩ := e
    have hlm : len ≤ m := by rw [hm]; split <;> omega
    have hall : ∀ i, i < len → ∃ z : Stp, z.2.1 < 18446744073709551616 ∧ -9223372036854775808 ≤ z.1 ∧ z.1 ≤ 9223372036854775807 ∧ -9223372036854775808 ≤ z.2.2 ∧ z.2.2 ≤ 9223372036854775807 ∧
        a.block < w.heap.size ∧ w.cell? (a.add (i * 3)) = some (.int .i64 z.1) ∧ w.cell? ⟨(a.add (i * 3)).block, (a.add (i * 3)).off + 1, none⟩ = some (.int .u64 z.2.1) ∧ w.cell? ⟨(a.add (i * 3)).block, (a.add (i * 3)).off + 2, none⟩ = some (.int .i64 z.2.2) := by
      intro i hi
      obtain ⟨cs', hc, ht⟩ := hx i (by omega)
      obtain ⟨ka, kn, kk, rfl, b1, b2, b3, b4, b5⟩ := open_stp ht
      rw [step_cells] at hc
      obtain ⟨_, _, hat⟩ := World.cells?_some hc
      have c0 := hat 0 (by omega)
      have c1 := hat 1 (by omega)
      have c2 := hat 2 (by omega)
      have hb := World.block_lt_of_cell? w _ c0
      rw [Go.Deep.add_add, blkAdd] at hb
      exact ⟨(ka, kn, kk), b1, b2, b3, b4, b5, hb, c0, c1, c2⟩
    obtain ⟨f, hf⟩ := choose_lt (α := Stp) hall
    refine ⟨(List.range len).map f, ⟨by simp, fun i h => ?_⟩, by omega⟩
    have hi : i < len := by simpa using h
    have := hf i hi
    simp only [List.getElem_map, List.getElem_range]
    exact ⟨this.1, this.2.1, this.2.2.1, this.2.2.2.1, this.2.2.2.2.1, a, rfl, this.2.2.2.2.2⟩
end
end Go.Proofs.Ytaapdblddpnhdaa
