/-
  Layer 4 (label): two runs in a row of labels become one, whatever their lengths.
-/
import Derived.Test.YtopnnhjfcfhihaaLabelSymC
namespace Go.Proofs.Ytopnnhjfcfhihaa
open Go.RowKit Go.Deep
theorem symm_c (K : Nat) : SymSays K := by
  induction K with
  | zero =>
    intro g B N cap a m b P A C S w hK _ _ _ _ _ hA1 hC1
    omega
  | succ K ihk =>
    intro g B N cap a m b P A C S w hK hg hB ha hm hb hA1 hC1 hA hC hN hn hr
    by_cases h1 : A.length = 1
    · obtain ⟨x, rfl⟩ := List.length_eq_one_iff.1 h1
      refine (symm_one g B N cap a m b P C S x w hg hB ha (by simpa using hm) hb hC1 hC hN hn (by simpa using hr)).mono ?_
      rintro e w' ⟨he, ⟨D, q1, q2, q3, q4⟩, hb'⟩
      exact ⟨he, ⟨D, q1, q2, q3, by simp; omega⟩, hb'⟩
    · by_cases h2 : C.length = 1
      · obtain ⟨x, rfl⟩ := List.length_eq_one_iff.1 h2
        refine (symm_last g B N cap a m b P A S x w hg hB ha hm (by simpa using hb) (by omega) hA hN hn (by simpa using hr)).mono ?_
        rintro e w' ⟨he, ⟨D, q1, q2, q3, q4⟩, hb'⟩
        exact ⟨he, ⟨D, q1, q2, q3, by simp; omega⟩, hb'⟩
      · by_cases h3 : (a + b) / 2 < m
        · exact symm_lo K g B N cap a m b P A C S w ihk hK hg hB ha hm hb (by omega) (by omega) hA hC hN hn hr _ _ _ _ _ rfl rfl rfl ⟨h3, rfl, rfl⟩
        · exact symm_hi K g B N cap a m b P A C S w ihk hK hg hB ha hm hb (by omega) (by omega) hA hC hN hn hr _ _ _ _ _ rfl rfl rfl ⟨by omega, rfl, rfl⟩
end Go.Proofs.Ytopnnhjfcfhihaa
