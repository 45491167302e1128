/-
  Layer 6 (post): where the lowest one stands; which are wanted.
-/
import Derived.Test.YtalhjejbaembbaaPostApp
namespace Go.Proofs.Ytalhjejbaembbaa
open Go.RowKit Go.Deep
set_option linter.unusedVariables false
set_option linter.unusedSimpArgs false
theorem wantAnd_c (p q : Bool) (w : World) : Calls Try.prog 23 #[.bool p, .bool q] w fun e w' => e = .returned (.bool (fAnd p q)) ∧ w = w' := by
  cases p <;> cases q
  all_goals
    go_enter Try.func23, Try.ntmps23
    go_wp2_with fail
    go_ret
    exact ⟨rfl, rfl⟩
theorem wantOr_c (p q : Bool) (w : World) : Calls Try.prog 24 #[.bool p, .bool q] w fun e w' => e = .returned (.bool (fOr p q)) ∧ w = w' := by
  cases p <;> cases q
  all_goals
    go_enter Try.func24, Try.ntmps24
    go_wp2_with fail
    go_ret
    exact ⟨rfl, rfl⟩
theorem wantNot_c (p q : Bool) (w : World) : Calls Try.prog 25 #[.bool p, .bool q] w fun e w' => e = .returned (.bool (fNot p q)) ∧ w = w' := by
  cases p <;> cases q
  all_goals
    go_enter Try.func25, Try.ntmps25
    go_wp2_with fail
    go_ret
    exact ⟨rfl, rfl⟩
theorem ret_two {a b c d : Bool} (h : a = c) (k : b = d) : Ending.returned (.tuple #[.bool a, .bool b]) = .returned (.tuple #[.bool c, .bool d]) := by rw [h, k]
theorem IAt.head {w : World} {A : Option Addr} {n cap : Nat} {x : Int} {l : List Int} (h : IAt w A n cap (x :: l)) :
    ∃ ad, A = some ad ∧ ad.block < w.heap.size ∧ w.cell? ad = some (.int .i64 x) ∧ -9223372036854775808 ≤ x ∧ x ≤ 9223372036854775807 := by
  obtain ⟨⟨r1, r2⟩, ad, rfl, h2, h3⟩ := h.2.2 0 (by simp)
  exact ⟨ad, rfl, h2, h3, r1, r2⟩
set_option maxRecDepth 100000 in
theorem nextIn_c (A A' : Option Addr) (len len' cap cap' : Nat) (l m : List Int) (w : World) (hl : l.length ≤ 100000) (hm : m.length ≤ 100000) (hA : IAt w A len cap l) (hB : IAt w A' len' cap' m) :
    Calls Try.prog 27 #[.slice A len cap, .slice A' len' cap'] w fun e w' => e = .returned (.tuple #[.bool (inA l m), .bool (inB l m)]) ∧ Below w.heap.size w w' := by
  have hle := hA.1
  have hme := hB.1
  subst hle hme
  match l, m with
  | [], [] =>
    go_enter Try.func27, Try.ntmps27
    go_wp2_with fail
    go_ret2
    exact ⟨rfl, Below.refl _ _⟩
  | [], y :: m =>
    go_enter Try.func27, Try.ntmps27
    go_wp2_with fail
    go_ret2
    exact ⟨ret_two (by simp [inA]) (by simp [inB]; try omega), Below.refl _ _⟩
  | x :: l, [] =>
    go_enter Try.func27, Try.ntmps27
    go_wp2_with fail
    go_ret2
    exact ⟨ret_two (by simp [inA]; try omega) (by simp [inB]), Below.refl _ _⟩
  | x :: l, y :: m =>
    obtain ⟨ad, rfl, h2, h3, r1, r2⟩ := hA.head
    obtain ⟨ad', rfl, k2, k3, s1, s2⟩ := hB.head
    have cc := fun W => Try.cmp_Compare_int x y W
    obtain ⟨C, hC⟩ : ∃ C, Lib.compareInt x y = C := ⟨_, rfl⟩
    rw [hC] at cc
    have hx : inA (x :: l) (y :: m) = decide (C ≤ 0) ∧ inB (x :: l) (y :: m) = decide (C ≥ 0) := by
      subst hC
      show decide (x ≤ y) = decide (Lib.compareInt x y ≤ 0) ∧ decide (y ≤ x) = decide (Lib.compareInt x y ≥ 0)
      unfold Lib.compareInt
      rcases Int.lt_trichotomy x y with h | h | h
      · rw [if_pos h]; exact ⟨by rw [decide_eq_true (show x ≤ y by omega)]; rfl, by rw [decide_eq_false (show ¬ y ≤ x by omega)]; rfl⟩
      · rw [if_neg (by omega), if_neg (by omega)]; exact ⟨by rw [decide_eq_true (show x ≤ y by omega)]; rfl, by rw [decide_eq_true (show y ≤ x by omega)]; rfl⟩
      · rw [if_neg (by omega), if_pos h]; exact ⟨by rw [decide_eq_false (show ¬ x ≤ y by omega)]; rfl, by rw [decide_eq_true (show y ≤ x by omega)]; rfl⟩
    have t1 : ((l.length : Int) + 1 == 0) = false := by simpa using by omega
    have t2 : ((m.length : Int) + 1 == 0) = false := by simpa using by omega
    clear hC
    go_enter Try.func27, Try.ntmps27
    go_wp2_with fail
    go_quiet (first | (go_at_call 30; exact Calls.quiet_of_same ((cc _).mono fun _ _ ⟨a, b⟩ => ⟨a, b⟩)))
    go_wp2_with fail
    go_ret2
    exact ⟨ret_two hx.1.symm hx.2.symm, below_drewN (Below.refl _ _) _⟩
end Go.Proofs.Ytalhjejbaembbaa
