/-
  What the listed variable's datum says of its cells: frame's table of half bytes. A world that holds it.
-/
import Derived.Test.YtfhcjlmolneooaaDoorRows
import Derived.Test.YtfhcjlmolneooaaDoorFrameC
import Derived.Lib.LaidTab
import Derived.ProofKit
import Derived.Deep.DeepHandedRow
namespace Go.Proofs.YtfhcjlmolneooaaDoor
open Go.RowKit
theorem halves_eq : (Rows.laid_strandline_frame_halves : DataW Unit) = Lib.tabData .u16 (halfT.map fun n : Nat => Int.ofNat n) := by kernel_rfl
theorem halves_met {W : World} (h : laidMetH Tryd.prog [("strandline/frame.halves", Rows.laid_strandline_frame_halves)] W) : laidMet Tryd.prog [("strandline/frame.halves", Rows.laid_strandline_frame_halves)] W := h
theorem halves_size (W : World) {cs : Value} (h : W.cell? ⟨0, 0, none⟩ = some cs) : 0 < W.heap.size := World.block_lt_of_cell? W ⟨0, 0, none⟩ h
theorem tabs {W : World} (h : laidMetH Tryd.prog [("strandline/frame.halves", Rows.laid_strandline_frame_halves)] W) : Halves W := by
  have h1 := halves_met h
  rw [halves_eq] at h1
  have hT := Lib.tabIs_of_head (g := 0) (by kernel_rfl) (by kernel_rfl) Tryd.underlying44 Tryd.underlying36 (by kernel_rfl) (by kernel_rfl) h1
  have hc : ∀ i (h : i < halfT.length), W.cell? ⟨0, i, none⟩ = some (.int .u16 (halfT[i] : Int)) := fun i hi => by
    have h2 := hT.cell (g := 0) (by kernel_rfl) i (by simpa using hi)
    rw [h2]
    simp [List.getD, hi]
  exact ⟨halves_size W (hc 0 (by decide)), hc⟩
def halfCells : Array Value := (halfT.map fun n : Nat => Value.int .u16 (Int.ofNat n)).toArray
/-- A block with these cells. -/
def withCells (cs : Array Value) : Obj → Obj
  | .cells _ t frozen => .cells cs t frozen
  | o => o
/-- A world that holds the table. -/
noncomputable def laidWorld (os : Os) : World :=
  { World.holding Tryd.prog os ⟨#[], #[], []⟩ with heap := (World.holding Tryd.prog os ⟨#[], #[], []⟩).heap.modify 0 (withCells halfCells) }
end Go.Proofs.YtfhcjlmolneooaaDoor
