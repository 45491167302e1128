/-
  Layer 1 (zig): integers and texts at any place, plain. No program is named.
-/
import Derived.Test.YtfhcjlmolneooaaDoorZigPure
namespace Go.Proofs.YtfhcjlmolneooaaDoor
set_option linter.unusedVariables false
set_option linter.unusedSimpArgs false
/-- An integer's bytes, at any place. -/
theorem getU_at {l : List UInt8} {a : Nat} {v nx : Int} (h : getU l a = (v, nx, 0)) : ∃ n k : Nat, v = n ∧ nx = k ∧ a ≤ k ∧ k ≤ l.length ∧ n < 18446744073709551616 ∧ l.take k = l.take a ++ uv n := by
  have hr := getU_range h
  unfold getU at h
  rw [Int.toNat_natCast] at h
  split at h
  · simp at h
  · split at h
    · simp at h
    · split at h
      · simp at h
      · split at h
        · rename_i hc
          simp only [Prod.mk.injEq, and_true] at h
          refine ⟨val ((l.drop a).take (lead (l.drop a) + 1)), a + (lead (l.drop a) + 1), h.1.symm, by omega, by omega, by omega, hc.1, ?_⟩
          rw [hc.2, List.take_add]
        · simp at h
theorem getT_at {l : List UInt8} {a : Nat} {t : List UInt8} {nx : Int} (h : getT l a = (t, nx, 0)) : ∃ k : Nat, nx = k ∧ a ≤ k ∧ k ≤ l.length ∧ l.take k = l.take a ++ tx t := by
  unfold getT at h
  split at h
  · rename_i h0
    obtain ⟨v, nx', er, hu⟩ : ∃ v nx' er, getU l a = (v, nx', er) := ⟨_, _, _, rfl⟩
    rw [hu] at h h0
    simp only at h h0
    subst h0
    obtain ⟨n, k, rfl, rfl, h1, h2, h3, h4⟩ := getU_at hu
    split at h
    · simp at h
    · rename_i hlt
      simp only [Prod.mk.injEq, and_true] at h
      simp only [Int.toNat_natCast] at h
      obtain ⟨ht, hx⟩ := h
      have hlen : t.length = n := by rw [← ht, List.length_take, List.length_drop]; omega
      refine ⟨k + n, by omega, by omega, by omega, ?_⟩
      rw [List.take_add, h4, ht, tx, hlen, List.append_assoc]
  · rename_i h0
    simp only [Prod.mk.injEq] at h
    exact absurd h.2.2 h0
end Go.Proofs.YtfhcjlmolneooaaDoor
