/-
  Layer 5 (match): matchers that may be, plain. No program is named.
-/
import Derived.Test.YtopnnhjfcfhihaaDoorLabelForm
import Derived.Test.YtopnnhjfcfhihaaDoorMatchMem
namespace Go.Proofs.YtopnnhjfcfhihaaDoor
open Go.RowKit Go.Deep
/-- Is v behind what stood ahead, if there is any? -/
def lessO : Option (List UInt8) → List UInt8 → Bool
  | none, _ => true
  | some p, v => Op.bytesLess p v
def setFrom : Option (List UInt8) → List (List UInt8) → Bool
  | _, [] => true
  | o, v :: r => valueL v && (lessO o v && setFrom (some v) r)
def setL (s : List (List UInt8)) : Bool := (decide (1 ≤ s.length) && decide (s.length ≤ 8)) && setFrom none s
def prevO (s : List (List UInt8)) (i : Nat) : Option (List UInt8) := if h : 0 < i ∧ i - 1 < s.length then some (s[i - 1]'h.2) else none
theorem prevO_zero (s : List (List UInt8)) : prevO s 0 = none := by unfold prevO; rw [dif_neg (by omega)]
theorem prevO_succ {s : List (List UInt8)} {i : Nat} (h : i < s.length) : prevO s (i + 1) = some s[i] := by unfold prevO; rw [dif_pos ⟨by omega, by simpa using h⟩]; simp
theorem setFrom_at {o : Option (List UInt8)} {s : List (List UInt8)} {i : Nat} (h : i < s.length) : setFrom o (s.drop i) = (valueL s[i] && (lessO o s[i] && setFrom (some s[i]) (s.drop (i + 1)))) := by
  rw [List.drop_eq_getElem_cons h]; cases o <;> rfl
theorem setFrom_end (o : Option (List UInt8)) (s : List (List UInt8)) : setFrom o (s.drop s.length) = true := by rw [List.drop_length]; cases o <;> rfl
def chkL (m : Mat) : Bool := nameL m.2.1 && (if m.1 = 3 then (m.2.2.1 == []) && setL m.2.2.2 else if 0 ≤ m.1 ∧ m.1 ≤ 3 then valueL m.2.2.1 && decide (m.2.2.2.length = 0) else false)
def eM (b : Bool) : Int := if b then 0 else 50
theorem setFrom_mem {o : Option (List UInt8)} {s : List (List UInt8)} (h : setFrom o s = true) : ∀ x ∈ s, valueL x = true := by
  induction s generalizing o with
  | nil => intro x hx; simp at hx
  | cons y r ih =>
    have h' : (valueL y && (lessO o y && setFrom (some y) r)) = true := by cases o <;> exact h
    simp only [Bool.and_eq_true] at h'
    intro x hx
    rcases List.mem_cons.1 hx with rfl | hx
    · exact h'.1
    · exact ih h'.2.2 x hx
/-- Nothing of it is long. -/
def smallM (m : Mat) : Prop := m.2.1.length ≤ 16384 ∧ m.2.2.1.length ≤ 16384 ∧ m.2.2.2.length ≤ 16384 ∧ ∀ x ∈ m.2.2.2, x.length ≤ 16384
end Go.Proofs.YtopnnhjfcfhihaaDoor
