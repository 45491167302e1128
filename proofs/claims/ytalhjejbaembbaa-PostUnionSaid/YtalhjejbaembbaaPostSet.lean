/-
  Layer 6 (post): And, Or, Not and Has.
-/
import Derived.Test.YtalhjejbaembbaaPostMerge
import Derived.Test.YtalhjejbaembbaaPostRef
namespace Go.Proofs.Ytalhjejbaembbaa
open Go.RowKit Go.Deep
set_option linter.unusedVariables false
set_option linter.unusedSimpArgs false
theorem and_c (A A' : Option Addr) (len len' cap cap' : Nat) (l m : List Int) (w : World) (hl : l.length ≤ 10000) (hm : m.length ≤ 10000) (hA : IAt w A len cap l) (hB : IAt w A' len' cap' m) :
    Calls Try.prog 9 #[.slice A len cap, .slice A' len' cap'] w fun e w' => (∃ v, e = .returned v ∧ NewI w.heap.size v (mergeL fAnd l m) w') ∧ Below w.heap.size w w' := by
  have cm := Lib.hid (mergeAnd_c A A' len len' cap cap' l m w hl hm hA hB)
  go_enter Try.func9, Try.ntmps9
  go_wp2_with (first | (go_at_call 22; refine cm.out.mono ?_; rintro e w1 ⟨⟨v, rfl, hN⟩, hb⟩; have HN := Lib.hid hN; clear hN; dsimp only))
  go_ret
  exact ⟨⟨_, rfl, HN.out⟩, hb⟩
theorem or_c (A A' : Option Addr) (len len' cap cap' : Nat) (l m : List Int) (w : World) (hl : l.length ≤ 10000) (hm : m.length ≤ 10000) (hA : IAt w A len cap l) (hB : IAt w A' len' cap' m) :
    Calls Try.prog 10 #[.slice A len cap, .slice A' len' cap'] w fun e w' => (∃ v, e = .returned v ∧ NewI w.heap.size v (mergeL fOr l m) w') ∧ Below w.heap.size w w' := by
  have cm := Lib.hid (mergeOr_c A A' len len' cap cap' l m w hl hm hA hB)
  go_enter Try.func10, Try.ntmps10
  go_wp2_with (first | (go_at_call 22; refine cm.out.mono ?_; rintro e w1 ⟨⟨v, rfl, hN⟩, hb⟩; have HN := Lib.hid hN; clear hN; dsimp only))
  go_ret
  exact ⟨⟨_, rfl, HN.out⟩, hb⟩
theorem not_c (A A' : Option Addr) (len len' cap cap' : Nat) (l m : List Int) (w : World) (hl : l.length ≤ 10000) (hm : m.length ≤ 10000) (hA : IAt w A len cap l) (hB : IAt w A' len' cap' m) :
    Calls Try.prog 11 #[.slice A len cap, .slice A' len' cap'] w fun e w' => (∃ v, e = .returned v ∧ NewI w.heap.size v (mergeL fNot l m) w') ∧ Below w.heap.size w w' := by
  have cm := Lib.hid (mergeNot_c A A' len len' cap cap' l m w hl hm hA hB)
  go_enter Try.func11, Try.ntmps11
  go_wp2_with (first | (go_at_call 22; refine cm.out.mono ?_; rintro e w1 ⟨⟨v, rfl, hN⟩, hb⟩; have HN := Lib.hid hN; clear hN; dsimp only))
  go_ret
  exact ⟨⟨_, rfl, HN.out⟩, hb⟩
theorem ret_b {a b : Bool} (h : a = b) : Ending.returned (.bool a) = .returned (.bool b) := by rw [h]
/-- Has of a row of the call's own. -/
theorem has_c {B : Nat} (A : Option Addr) (cap : Nat) (l : List Int) (n : Int) (w : World) (hl : l.length ≤ 100000) (hu : Up l) (hN : NewI B (.slice A l.length cap) l w) :
    Calls Try.prog 18 #[.slice A l.length cap, .int .i64 n] w fun e w' => e = .returned (.bool (decide (n ∈ l))) ∧ Below w.heap.size w w' := by
  have cb : Calls Try.prog 26 #[.slice A l.length cap, .int .i64 n] w fun e w' => (∃ k : Int, e = .returned (.tuple #[.int .i64 k, .bool (decide (n ∈ l))])) ∧ Below w.heap.size w w' := by
    rcases hN.own.2 with ⟨e, h0⟩ | ⟨g, c, cur, e, hg, hb, hc, _⟩
    · have h : l = [] := List.length_eq_zero_iff.1 h0
      subst h
      refine (Try.slices_BinarySearch_int_empty A cap n w).mono ?_
      rintro e w1 ⟨rfl, rfl⟩
      exact ⟨⟨0, by simp⟩, Below.refl _ _⟩
    · injection e with e1 e2 e3
      subst e1
      refine (Try.slices_BinarySearch_int g 0 l.length cap l n w (Nat.le_refl _) (by omega) (fun j hj => ?_) ?_).mono ?_
      · have := hN.own.cells (g := g) rfl j (.int .i64 l[j]) (by simp [intC, hj])
        rw [List.getD_eq_getElem?_getD, List.getElem?_eq_getElem hj, Nat.zero_add]
        have ea : (⟨g, 0, none⟩ : Addr).add j = ⟨g, j, none⟩ := by unfold Addr.add; split <;> simp_all
        rw [ea] at this
        exact this
      · rw [List.take_length]
        exact hu.imp fun h => by omega
      · rintro e w1 ⟨rfl, q, rfl⟩
        rw [List.take_length]
        exact ⟨⟨_, by rw [List.contains_eq_mem]⟩, below_drewN (Below.refl _ _) _⟩
  have cb := Lib.hid cb
  go_enter Try.func18, Try.ntmps18
  go_wp2_with (first | (go_at_call 26; refine cb.out.mono ?_; rintro e w1 ⟨⟨k, rfl⟩, hb⟩; dsimp only))
  go_ret
  exact ⟨rfl, hb⟩
end Go.Proofs.Ytalhjejbaembbaa
