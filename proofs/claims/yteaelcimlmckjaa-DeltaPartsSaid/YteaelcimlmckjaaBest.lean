/-
  Layer 2 (rice): what numbers cost, and the best k, as plain functions. They name no program.
-/
import Derived.Test.YteaelcimlmckjaaRicePure
namespace Go.Proofs.Yteaelcimlmckjaa

def costN (xs : List Nat) (k : Nat) : Nat := (xs.map fun n => (code n k).length).sum
theorem costN_take (xs : List Nat) (k i : Nat) (h : i < xs.length) : costN (xs.take (i + 1)) k = costN (xs.take i) k + (code xs[i] k).length := by
  unfold costN
  rw [List.take_succ_eq_append_getElem h, List.map_append, List.sum_append]; simp
theorem costN_le (xs : List Nat) (k : Nat) (hk : k ≤ 40) : costN xs k ≤ 88 * xs.length := by
  induction xs with
  | nil => simp [costN]
  | cons x xs ih =>
    have := code_le x k hk
    simp only [costN, List.map_cons, List.sum_cons, List.length_cons] at ih ⊢
    omega
def costF (xs : List Nat) (k : Int) : Nat := if k < 0 ∨ 40 < k then 0 else costN xs k.toNat
theorem costF_ok (xs : List Nat) (k : Nat) (h : k ≤ 40) : costF xs k = costN xs k := by unfold costF; rw [if_neg (by omega)]; rfl
def bestTo (xs : List Nat) : Nat → Nat
  | 0 => 0
  | m + 1 => if costN xs (m + 1) < costN xs (bestTo xs m) then m + 1 else bestTo xs m
theorem bestTo_le (xs : List Nat) (m : Nat) : bestTo xs m ≤ m := by
  induction m with
  | zero => exact Nat.le_refl _
  | succ m ih => unfold bestTo; split <;> omega
theorem bestTo_least (xs : List Nat) (m i : Nat) (h : i ≤ m) : costN xs (bestTo xs m) ≤ costN xs i ∧ (i < bestTo xs m → costN xs (bestTo xs m) < costN xs i) := by
  induction m generalizing i with
  | zero =>
    obtain rfl : i = 0 := by omega
    exact ⟨Nat.le_refl _, fun h => absurd h (by simp [bestTo])⟩
  | succ m ih =>
    have hle := bestTo_le xs m
    unfold bestTo
    split
    · rename_i hlt
      by_cases hi : i = m + 1
      · subst hi; exact ⟨Nat.le_refl _, fun h => absurd h (by omega)⟩
      · have := ih i (by omega); exact ⟨by omega, fun _ => by omega⟩
    · rename_i hge
      by_cases hi : i = m + 1
      · subst hi; exact ⟨by omega, fun h => by omega⟩
      · exact ih i (by omega)
end Go.Proofs.Yteaelcimlmckjaa
