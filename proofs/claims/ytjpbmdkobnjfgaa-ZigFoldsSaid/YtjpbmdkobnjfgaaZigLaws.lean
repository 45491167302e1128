/-
  Layer 1 (zig): each law's Go text returns true, for every input.
-/
import Derived.Test.YtjpbmdkobnjfgaaZigRef
import Derived.OpenShut
namespace Go.Proofs.Ytjpbmdkobnjfgaa
open Go.RowKit Go.Deep
attribute [local go_sem] str_size str_append str_toList str_get str_extract
theorem law_ZigFolds (a0 : Int) (a1 : Int) (w : World) (w0 : (Lit.int .i64 a0).wf = true) (w1 : (Lit.int .u64 a1).wf = true) :
    Calls Try.prog 5 #[.int .i64 a0, .int .u64 a1] w fun e w' => e = .returned (.bool true) ∧ Below w.heap.size w w' := by
  obtain ⟨h1, h2⟩ := bounds_i64 w0
  obtain ⟨h3, h4⟩ := bounds_u64 w1
  obtain ⟨k, rfl⟩ : ∃ k : Nat, a1 = k := ⟨a1.toNat, by omega⟩
  have hr := fold_range a0 h1 h2
  have hu := unfold_range k h3 h4
  have e1 := unfold_fold a0
  have e2 := fold_unfold k h3
  obtain ⟨m, hm⟩ : ∃ m : Nat, fold a0 = m := ⟨(fold a0).toNat, by omega⟩
  obtain ⟨j, hj⟩ : ∃ j : Int, unfold k = j := ⟨_, rfl⟩
  rw [hm] at hr e1
  rw [hj] at hu e2
  have hsmall : -1000 ≤ a0 → a0 ≤ 1000 → m ≤ 2000 := fun x y => by unfold fold at hm; split at hm <;> omega
  have HM := Lib.hid hm
  have HJ := Lib.hid hj
  have E1 := Lib.hid e1
  have E2 := Lib.hid e2
  obtain ⟨hu1, hu2⟩ := hu
  have HS : Hid (-1000 ≤ a0 → a0 ≤ 1000 → m ≤ 2000) := hsmall
  clear hm hj e1 e2 hsmall w0 w1
  go_enter Try.func5, Try.ntmps5
  go_wp2_with fail
  refine (fold_c a0 _ h1 h2).mono ?_
  rintro e w' ⟨rfl, rfl⟩
  rw [HM.out]
  go_wp2_with fail
  refine (refFold_c a0 _ h1 h2).mono ?_
  rintro e w' ⟨rfl, rfl⟩
  rw [HM.out]
  go_wp2_with fail
  refine (unfold_c m _ (by omega)).mono ?_
  rintro e w' ⟨rfl, rfl⟩
  rw [E1.out]
  go_wp2_with fail
  refine (unfold_c k _ (by omega)).mono ?_
  rintro e w' ⟨rfl, rfl⟩
  rw [HJ.out]
  go_wp2_with fail
  refine (fold_c j _ hu1 hu2).mono ?_
  rintro e w' ⟨rfl, rfl⟩
  rw [E2.out]
  by_cases c1 : a0 < -1000
  · go_wp2_with fail
    go_ret
    exact ⟨rfl, Below.refl _ _⟩
  · by_cases c2 : 1000 < a0
    · go_wp2_with fail
      go_ret
      exact ⟨rfl, Below.refl _ _⟩
    · have hs := HS.out (by omega) (by omega)
      go_wp2_with fail
      go_ret
      exact ⟨ret_bool (by simp; omega), Below.refl _ _⟩
end Go.Proofs.Ytjpbmdkobnjfgaa
