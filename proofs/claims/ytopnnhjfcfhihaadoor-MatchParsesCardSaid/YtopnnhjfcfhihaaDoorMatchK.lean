/-
  Layer 5 (match): what kindOf returns.
-/
import Derived.Test.YtopnnhjfcfhihaaDoorLabelG
import Derived.Laws.ResultCell
namespace Go.Proofs.YtopnnhjfcfhihaaDoor
open Go.RowKit Go.Deep
attribute [local go_sem] str_size str_append str_toList str_get str_extract
set_option linter.unusedVariables false
set_option linter.unusedSimpArgs false
/-- A kind's value: its mark, whether it is turned round, whether it looks for many, what it looks for. -/
def kindV (mark : List UInt8) (b c : Bool) (F : Value) : Value := .agg #[.string (str mark), .bool b, .bool c, F]
def kindL (k : Int) : Value :=
  if k = 0 then kindV [] false false (.func (.func 32) #[] #[])
  else if k = 1 then kindV [33] true false (.func (.func 32) #[] #[])
  else if k = 2 then kindV [94] false false (.func (.func 33) #[] #[])
  else if k = 3 then kindV [64] false true (.func (.func 35) #[] #[])
  else kindV [] false false .nilFunc
theorem kindOf_c (k : Int) (w : World) : Calls Tryd.prog 19 #[.int .i64 k] w fun e w' => e = .returned (.tuple #[kindL k, .bool (decide (0 ≤ k ∧ k ≤ 3))]) ∧ Below w.heap.size w w' := by
  have hs1 := fun (a : Addr) (w : World) => run_store Tryd.prog w a (.func (.func 32) #[] #[]) .plain rfl
  have hs2 := fun (a : Addr) (w : World) => run_store Tryd.prog w a (.func (.func 33) #[] #[]) .plain rfl
  have hs3 := fun (a : Addr) (w : World) => run_store Tryd.prog w a (.func (.func 35) #[] #[]) .plain rfl
  have hs4 := fun (a : Addr) (w : World) => run_store Tryd.prog w a .nilFunc .plain rfl
  by_cases h0 : k = 0
  · subst h0
    go_enter Tryd.func19, Tryd.ntmps19
    go_wp2_with fail
    refine bodyPost_ret (v := .tuple #[kindV [] false false (.func (.func 32) #[] #[]), .bool true]) ?_ rfl ⟨?_, ?_⟩
    · rw [results_cell_tmp rfl]; go_simp; try rfl
    · first | rfl | (rw [HE.out.1, HE.out.2])
    · repeat' (first | exact Below.refl _ _ | refine Below.alloc ?_ (by simp <;> omega) _)
  by_cases h1 : k = 1
  · subst h1
    go_enter Tryd.func19, Tryd.ntmps19
    go_wp2_with fail
    refine bodyPost_ret (v := .tuple #[kindV [33] true false (.func (.func 32) #[] #[]), .bool true]) ?_ rfl ⟨?_, ?_⟩
    · rw [results_cell_tmp rfl]; go_simp; try rfl
    · first | rfl | (rw [HE.out.1, HE.out.2])
    · repeat' (first | exact Below.refl _ _ | refine Below.alloc ?_ (by simp <;> omega) _)
  by_cases h2 : k = 2
  · subst h2
    go_enter Tryd.func19, Tryd.ntmps19
    go_wp2_with fail
    refine bodyPost_ret (v := .tuple #[kindV [94] false false (.func (.func 33) #[] #[]), .bool true]) ?_ rfl ⟨?_, ?_⟩
    · rw [results_cell_tmp rfl]; go_simp; try rfl
    · first | rfl | (rw [HE.out.1, HE.out.2])
    · repeat' (first | exact Below.refl _ _ | refine Below.alloc ?_ (by simp <;> omega) _)
  by_cases h3 : k = 3
  · subst h3
    go_enter Tryd.func19, Tryd.ntmps19
    go_wp2_with fail
    refine bodyPost_ret (v := .tuple #[kindV [64] false true (.func (.func 35) #[] #[]), .bool true]) ?_ rfl ⟨?_, ?_⟩
    · rw [results_cell_tmp rfl]; go_simp; try rfl
    · first | rfl | (rw [HE.out.1, HE.out.2])
    · repeat' (first | exact Below.refl _ _ | refine Below.alloc ?_ (by simp <;> omega) _)
  have HE : Hid (kindL k = kindV [] false false .nilFunc ∧ decide (0 ≤ k ∧ k ≤ 3) = false) := by
    refine ⟨?_, decide_eq_false (by omega)⟩
    unfold kindL
    rw [if_neg h0, if_neg h1, if_neg h2, if_neg h3]
  have t0 : (k == 0) = false := by simpa using h0
  have t1 : (k == 1) = false := by simpa using h1
  have t2 : (k == 2) = false := by simpa using h2
  have t3 : (k == 3) = false := by simpa using h3
  clear h0 h1 h2 h3
  go_enter Tryd.func19, Tryd.ntmps19
  go_wp2_with fail
  refine bodyPost_ret (v := .tuple #[kindV [] false false .nilFunc, .bool false]) ?_ rfl ⟨?_, ?_⟩
  · rw [results_cell_tmp rfl]; go_simp; try rfl
  · first | rfl | (rw [HE.out.1, HE.out.2])
  · repeat' (first | exact Below.refl _ _ | refine Below.alloc ?_ (by simp <;> omega) _)
end Go.Proofs.YtopnnhjfcfhihaaDoor
