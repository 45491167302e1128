/-
  An argument that is a slice of matchers: its cells, read off what the statement gives.
-/
import Derived.Test.YtopnnhjfcfhihaaDoorStrs
import Derived.ProofKit
import Derived.OpenShut
import Derived.Deep.Slices
import Derived.Deep.Fields
import Derived.ChangeSame
namespace Go.Proofs.YtopnnhjfcfhihaaDoor
open Go.ChangeShapes Go.WideShapes Go.ChangeAt Go.RowKit Go.Deep

theorem mat_cells : Tryd.prog.cellsOf 30 = 4 := by kernel_rfl
theorem mat_int : Tryd.prog.cellsOf 3 = 1 := by kernel_rfl
theorem mat_set : Tryd.prog.cellsOf 28 = 1 := by kernel_rfl
theorem i64_of {a : Int} (h : (Lit.int .i64 a).wf = true) : -9223372036854775808 ≤ a ∧ a ≤ 9223372036854775807 := by
  have e : IntKind.i64.min = -9223372036854775808 := by decide
  unfold Lit.wf at h
  simp at h
  omega
section
variable {H : Type} {enc : TypeId × Value → H} {w : World} {base : Nat} {spare : Nat → Bool} {held : Bool}
set_option maxRecDepth 100000 in
/-- One matcher's four cells. -/
theorem open_mat {fuel : Nat} {cs : List Value} {x : DataW H × List MemPlace} (h : DataW.trod enc Tryd.prog w base spare held fuel 30 cs = some x) :
    ∃ (m : Mat) (S : Option Addr) (cap : Nat), cs = [.int .i64 m.1, .string (str m.2.1), .string (str m.2.2.1), .slice S m.2.2.2.length cap] ∧
      (m.2.1.length ≤ 9223372036854775807 ∧ m.2.2.1.length ≤ 9223372036854775807 ∧ m.2.2.2.length ≤ 9223372036854775807 ∧ -9223372036854775808 ≤ m.1 ∧ m.1 ≤ 9223372036854775807) ∧ StrsAt w S m.2.2.2.length m.2.2.2 := by
  obtain ⟨ys, fu, _, _, hlen, hyl, hf⟩ := DataW.trod_struct Tryd.underlying30 h
  rw [mat_cells] at hlen
  match cs, hlen with
  | [c0, c1, c2, c3], _ =>
    match ys, hyl with
    | [y0, y1, y2, y3], _ =>
      have h0 : DataW.trod enc Tryd.prog w base spare held fu 3 (([c0, c1, c2, c3].drop 0).take (Tryd.prog.cellsOf 3)) = some y0 := hf 0 _ rfl
      have h1 : DataW.trod enc Tryd.prog w base spare held fu 9 (([c0, c1, c2, c3].drop 1).take (Tryd.prog.cellsOf 9)) = some y1 := hf 1 _ rfl
      have h2 : DataW.trod enc Tryd.prog w base spare held fu 9 (([c0, c1, c2, c3].drop 2).take (Tryd.prog.cellsOf 9)) = some y2 := hf 2 _ rfl
      have h3 : DataW.trod enc Tryd.prog w base spare held fu 28 (([c0, c1, c2, c3].drop 3).take (Tryd.prog.cellsOf 28)) = some y3 := hf 3 _ rfl
      rw [mat_int] at h0
      rw [one_str] at h1 h2
      rw [mat_set] at h3
      obtain ⟨k, e0, _, w0⟩ := DataW.trod_int Tryd.underlying3 h0
      obtain ⟨n, e1, _, w1⟩ := DataW.trod_string Tryd.underlying9 h1
      obtain ⟨v, e2, _, w2⟩ := DataW.trod_string Tryd.underlying9 h2
      obtain ⟨n, rfl⟩ := str_of n
      obtain ⟨v, rfl⟩ := str_of v
      rw [str_size] at w1 w2
      unfold maxLen at w1 w2
      have hs : ∃ S len cap, c3 = .slice S len cap := by
        rcases open_slice Tryd.underlying28 h3 with ⟨e, _⟩ | ⟨a, l, c, m, n, D, Pl, e, _⟩
        · simp at e; exact ⟨_, _, _, e⟩
        · simp at e; exact ⟨_, _, _, e⟩
      obtain ⟨S, len, cap, rfl⟩ := hs
      obtain ⟨zs, hz, hl⟩ := open_strs (cap := cap) (a0 := S) (len := len) (by simpa using h3)
      obtain ⟨b0, b1⟩ := i64_of w0
      simp at e0 e1 e2
      subst e0 e1 e2
      have := hz.1
      subst this
      unfold maxLen at hl
      exact ⟨(k, n, v, zs), S, cap, rfl, ⟨by omega, by omega, by omega, b0, b1⟩, hz⟩
theorem open_mats {fuel : Nat} {a0 : Option Addr} {len cap : Nat} {x : DataW H × List MemPlace} (h : DataW.trod enc Tryd.prog w base spare held fuel 22 [.slice a0 len cap] = some x) :
    ∃ zs, MsAt w a0 len zs ∧ len ≤ maxLen := by
  rcases open_slice Tryd.underlying22 h with ⟨e, _⟩ | ⟨a, l, c, m, n, D, Pl, e, _, hlc, hcm, hm, _, hx⟩
  · simp at e
    obtain ⟨rfl, rfl, rfl⟩ := e
    exact ⟨[], ⟨rfl, fun i h => by simp at h⟩, Nat.zero_le _⟩
  · simp at e
    obtain ⟨rfl, rfl, rfl⟩ := e
    have hlm : len ≤ m := by rw [hm]; split <;> omega
    have hall : ∀ i, i < len → ∃ z : Mat, (z.2.1.length ≤ 9223372036854775807 ∧ z.2.2.1.length ≤ 9223372036854775807 ∧ z.2.2.2.length ≤ 9223372036854775807 ∧ -9223372036854775808 ≤ z.1 ∧ z.1 ≤ 9223372036854775807) ∧
        (a.add (i * 4)).block < w.heap.size ∧ w.cell? (a.add (i * 4)) = some (.int .i64 z.1) ∧ w.cell? ⟨(a.add (i * 4)).block, (a.add (i * 4)).off + 1, none⟩ = some (.string (str z.2.1)) ∧
        w.cell? ⟨(a.add (i * 4)).block, (a.add (i * 4)).off + 2, none⟩ = some (.string (str z.2.2.1)) ∧ ∃ S cap, w.cell? ⟨(a.add (i * 4)).block, (a.add (i * 4)).off + 3, none⟩ = some (.slice S z.2.2.2.length cap) ∧ StrsAt w S z.2.2.2.length z.2.2.2 := by
      intro i hi
      obtain ⟨cs', hc, ht⟩ := hx i (by omega)
      obtain ⟨z, S, cp, rfl, b, hS⟩ := open_mat ht
      rw [mat_cells] at hc
      obtain ⟨_, _, hat⟩ := World.cells?_some hc
      have c0 := hat 0 (by omega)
      have c1 := hat 1 (by omega)
      have c2 := hat 2 (by omega)
      have c3 := hat 3 (by omega)
      exact ⟨z, b, World.block_lt_of_cell? w _ c0, c0, c1, c2, S, cp, c3, hS⟩
    obtain ⟨f, hf⟩ := choose_lt (α := Mat) hall
    refine ⟨(List.range len).map f, ⟨by simp, fun i h => ?_⟩, by omega⟩
    have hi : i < len := by simpa using h
    have := hf i hi
    simp only [List.getElem_map, List.getElem_range]
    exact ⟨this.1, a, rfl, this.2⟩
end
end Go.Proofs.YtopnnhjfcfhihaaDoor
