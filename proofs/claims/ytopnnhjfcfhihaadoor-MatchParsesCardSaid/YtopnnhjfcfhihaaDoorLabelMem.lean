/-
  Layer 4 (label): a slice of labels in memory; whether it is heavy; two of them compared.
-/
import Derived.Test.YtopnnhjfcfhihaaDoorLabelQ
import Derived.Deep.Fields
import Derived.Deep.Slices
import Derived.Deep.RegionHeld3
import Derived.OpenShut
namespace Go.Proofs.YtopnnhjfcfhihaaDoor
open Go.RowKit Go.Deep
attribute [local go_sem] str_size str_append str_toList str_get str_extract
set_option linter.unusedVariables false
set_option linter.unusedSimpArgs false

/-- A slice of labels that was there. -/
def LAt (w : World) (A : Option Addr) (len : Nat) (l : List Lab) : Prop :=
  len = l.length ∧ ∀ i (h : i < l.length), (l[i].1.length ≤ 9223372036854775807 ∧ l[i].2.length ≤ 9223372036854775807) ∧
    ∃ ad, A = some ad ∧ (ad.add (i * 2)).block < w.heap.size ∧ w.cell? (ad.add (i * 2)) = some (.string (str l[i].1)) ∧ w.cell? ⟨(ad.add (i * 2)).block, (ad.add (i * 2)).off + 1, none⟩ = some (.string (str l[i].2))
theorem LAt.below {w w' : World} {A : Option Addr} {len : Nat} {l : List Lab} (h : LAt w A len l) (hb : Below w.heap.size w w') : LAt w' A len l :=
  ⟨h.1, fun i hi => by
    obtain ⟨h1, ad, rfl, h2, h3, h4⟩ := h.2 i hi
    exact ⟨h1, ad, rfl, Nat.lt_of_lt_of_le h2 hb.size, (hb.cell (p := ad.add (i * 2)) h2).trans h3, (hb.cell (p := ⟨(ad.add (i * 2)).block, (ad.add (i * 2)).off + 1, none⟩) h2).trans h4⟩⟩
theorem LAt.drew {w : World} {A : Option Addr} {len : Nat} {l : List Lab} (h : LAt w A len l) : LAt w.drew A len l := h
theorem LAt.drewN {w : World} {A : Option Addr} {len : Nat} {l : List Lab} (h : LAt w A len l) (n : Nat) : LAt (w.drewN n) A len l := h
theorem LAt.nil (w : World) (A : Option Addr) : LAt w A 0 [] := ⟨rfl, fun i h => by simp at h⟩
theorem lab_cells : Tryd.prog.cellsOf 40 = 2 := by kernel_rfl
theorem lab_info : (Tryd.prog.info? 40).map (fun i => (i.zero, i.size, i.bytes)) = some (some (.agg #[.string (str []), .string (str [])]), 2, 32) := by kernel_rfl

/-! the cells of a row of labels -/
def labC : List Lab → List Value
  | [] => []
  | x :: r => .string (str x.1) :: .string (str x.2) :: labC r
theorem labC_append (l m : List Lab) : labC (l ++ m) = labC l ++ labC m := by
  induction l with
  | nil => rfl
  | cons x r ih => simp [labC, ih]
theorem labC_length (l : List Lab) : (labC l).length = 2 * l.length := by
  induction l with
  | nil => rfl
  | cons x r ih => simp [labC, ih]; omega
theorem labC_get (l : List Lab) : ∀ i (h : i < l.length), (labC l)[2 * i]? = some (.string (str l[i].1)) ∧ (labC l)[2 * i + 1]? = some (.string (str l[i].2)) := by
  induction l with
  | nil => intro i h; simp at h
  | cons x r ih =>
    intro i h
    cases i with
    | zero => exact ⟨rfl, rfl⟩
    | succ i => exact ih i (by simpa using h)
/-- A row of labels of the call's own, from block B on. -/
def HasL (B : Nat) (v : Value) (l : List Lab) (w : World) : Prop := ∃ g cap, v = .slice (some ⟨g, 0, none⟩) l.length cap ∧ w.ownsRow B 40 2 v l.length (labC l)
/-- What a row that the call owns is to others. -/
theorem own_lat {B : Nat} {v : Value} {n : Nat} {l : List Lab} {w : World} {A : Option Addr} {cap : Nat} (h : w.ownsRow B 40 2 (.slice A n cap) n (labC l)) (hn : n = l.length) (hs : ∀ x ∈ l, x.1.length ≤ 9223372036854775807 ∧ x.2.length ≤ 9223372036854775807) : LAt w A n l := by
  refine ⟨hn, fun i hi => ⟨hs _ (List.getElem_mem hi), ?_⟩⟩
  rcases h.2 with ⟨e, h0⟩ | ⟨g, c, cur, e, hg, hb, _⟩
  · omega
  · injection e with e1 e2 e3
    subst e1
    have hc := labC_get l i hi
    have h0 := h.cellAt (2 * i) (by omega)
    have h1 := h.cellAt (2 * i + 1) (by omega)
    rw [hc.1] at h0
    rw [hc.2] at h1
    have ea : (⟨g, 0, none⟩ : Addr).add (i * 2) = ⟨g, 2 * i, none⟩ := by
      unfold Addr.add
      split <;> simp_all <;> omega
    refine ⟨_, rfl, ?_, ?_, ?_⟩
    · rw [ea]; exact lt_of_block hb
    · rw [ea]; exact h0
    · rw [ea]; exact h1

/-! heavy -/
def sizeL (l : List Lab) : Nat := (l.map fun x => x.1.length + x.2.length).sum
theorem sizeL_append (a b : List Lab) : sizeL (a ++ b) = sizeL a + sizeL b := by simp [sizeL]
theorem sizeL_take (l : List Lab) (i : Nat) (h : i < l.length) : sizeL (l.take (i + 1)) = sizeL (l.take i) + (l[i].1.length + l[i].2.length) := by
  rw [List.take_succ_eq_append_getElem h, sizeL_append]; simp [sizeL]
theorem sizeL_take_le (l : List Lab) (i : Nat) : sizeL (l.take i) ≤ sizeL l := by
  have h : sizeL l = sizeL (l.take i) + sizeL (l.drop i) := by
    rw [← sizeL_append, List.take_append_drop]
  omega
theorem sizeL_mem (l : List Lab) : ∀ x ∈ l, x.1.length + x.2.length ≤ sizeL l := by
  induction l with
  | nil => intro x h; simp at h
  | cons y r ih =>
    intro x h
    simp only [sizeL, List.map_cons, List.sum_cons]
    rcases List.mem_cons.1 h with rfl | h
    · omega
    · have := ih x h; simp only [sizeL] at this; omega
def heavyL (l : List Lab) : Bool := decide (2048 < l.length + sizeL l)
end Go.Proofs.YtopnnhjfcfhihaaDoor
