/-
  Layer 9 (block): the program's disk: New.
-/
import Derived.Test.YtndmndchbfmppaaBlockXe
import Derived.Test.YtndmndchbfmppaaBlockRefW
namespace Go.Proofs.Ytndmndchbfmppaa
open Go.RowKit Go.Deep
attribute [local go_sem] str_size str_append str_toList str_get str_extract
set_option linter.unusedVariables false
set_option linter.unusedSimpArgs false
set_option linter.unusedSectionVars false
def zeroB (i : Nat) : Value := if i < 512 then .string (str []) else if i = 512 then .map none else if i = 513 then .int .i64 0 else if i = 514 then .bool false else if i = 515 then .int .i64 0 else if i = 516 then .int .i64 0 else .int .u64 0
/-- The struct's zero value. -/
def zerosB : Array Value := Array.replicate 512 (.string ⟨#[]⟩) ++ #[.map none, .int .i64 0, .bool false, .int .i64 0, .int .i64 0, .int .u64 0]
theorem disk_info : (Try.prog.info? 54).map (fun i => i.zero) = some (some (.agg zerosB)) := by kernel_rfl
theorem disk_zero : ∃ Z : Array Value, (∀ w, (zeroValue 54).run Try.prog w = .ok (.agg Z) w) ∧ Z.size = 518 ∧ ∀ i, i < 518 → Z[i]? = some (zeroB i) := by
  refine ⟨zerosB, fun w => ?_, by simp [zerosB], fun i hi => ?_⟩
  · have h := disk_info
    rcases e : Try.prog.info? 54 with _ | i
    · rw [e] at h; cases h
    · rw [e] at h
      have h2 : i.zero = some (.agg zerosB) := by simpa using h
      simp [zeroValue, typeInfo, e, h2, Result.andThen]
  · unfold zerosB zeroB
    by_cases h : i < 512
    · rw [if_pos h, Array.getElem?_append_left (by simpa using h)]
      simp [h]
      rfl
    · rw [if_neg h, Array.getElem?_append_right (by simpa using by omega)]
      simp only [Array.size_replicate]
      have hc : i = 512 ∨ i = 513 ∨ i = 514 ∨ i = 515 ∨ i = 516 ∨ i = 517 := by omega
      rcases hc with rfl | rfl | rfl | rfl | rfl | rfl <;> rfl
set_option maxRecDepth 100000 in
set_option maxHeartbeats 2000000 in
theorem bNew_c (n : Int) (w : World) (h1 : -9223372036854775808 ≤ n) (h2 : n ≤ 9223372036854775807) :
    Calls Try.prog 9 #[.int .i64 n] w fun e w' => MadeB (newD n) w.heap.size e w' ∧ Below w.heap.size w w' := by
  obtain ⟨N, hN⟩ : ∃ N, (newD n).n = N := ⟨_, rfl⟩
  have hN2 : min (max n 8) 512 = (N : Int) := by rw [← hN]; unfold newD; simp only; omega
  have n1 : N ≤ 512 := by omega
  have HN := Lib.hid hN
  clear hN
  have hmm := @run_makeMap Try.prog
  obtain ⟨Z, hZ, hZs, hZc⟩ := disk_zero
  have HZ := Lib.hid hZc
  clear hZc
  go_enter Try.func9, Try.ntmps9
  go_wp2_with fail
  go_ret
  have e0 : ((w.alloc (.map #[] 0)).alloc (.cells ((Z.setIfInBounds 512 (.map (some w.heap.size))).setIfInBounds 513 (.int .i64 (N : Int))) 54)).heap[w.heap.size + 1]? = some (.cells ((Z.setIfInBounds 512 (.map (some w.heap.size))).setIfInBounds 513 (.int .i64 (N : Int))) 54 (0, 0)) := by
    have := blk_new (w.alloc (.map #[] 0)) (.cells ((Z.setIfInBounds 512 (.map (some w.heap.size))).setIfInBounds 513 (.int .i64 (N : Int))) 54)
    simpa using this
  have hM := (mapI_made Try.prog 3 w).below (w' := (w.alloc (.map #[] 0)).alloc (.cells ((Z.setIfInBounds 512 (.map (some w.heap.size))).setIfInBounds 513 (.int .i64 (N : Int))) 54)) ((Below.refl _ _).alloc (Nat.le_refl _) _)
  have hst : ((w.alloc (.map #[] 0)).alloc (.cells ((Z.setIfInBounds 512 (.map (some w.heap.size))).setIfInBounds 513 (.int .i64 (N : Int))) 54)).rowIs (w.heap.size + 1) 54 518 (cellsB (fun _ => []) w.heap.size N false 0 0 0) := by
    refine ⟨_, e0, by simpa using hZs, fun i hi => ?_⟩
    rw [Array.getElem?_setIfInBounds]
    by_cases a1 : 513 = i
    · subst a1; simp [hZs, cellsB]
    · rw [if_neg a1, Array.getElem?_setIfInBounds]
      by_cases a2 : 512 = i
      · subst a2; simp [hZs, cellsB]
      · rw [if_neg a2, HZ.out i hi]
        unfold zeroB cellsB
        by_cases a3 : i < 512
        · simp [a3]
        · have hc : i = 514 ∨ i = 515 ∨ i = 516 ∨ i = 517 := by omega
          rcases hc with rfl | rfl | rfl | rfl <;> rfl
  have hn := HN.out
  have hB : BodyB [w.heap.size + 1, w.heap.size] (w.heap.size + 1) w.heap.size (fun _ => 0) (fun _ => undef) (.map []) 0 0 (newD n) ((w.alloc (.map #[] 0)).alloc (.cells ((Z.setIfInBounds 512 (.map (some w.heap.size))).setIfInBounds 513 (.int .i64 (N : Int))) 54)) :=
    { lt := fun k hk => by simp at hk; simp; omega
      n1 := by unfold newD; simp only; omega
      n2 := by omega
      rl := by unfold newD; simp
      rk := by unfold newD; simp
      lf := fun _ => rfl
      ll := by omega
      il := fun _ => by simp [newD]
      wl := fun j x hx => by simp [newD] at hx
      out := fun _ _ => rfl
      qF := by simp
      mF := by simp
      st := by rw [hn]; exact hst
      mp := hM
      no := fun x hx => by rw [getI_empty] at hx; simp at hx
      row := fun j _ h2 => absurd rfl h2
      inj := fun i j _ _ h2 => absurd rfl h2 }
  refine ⟨⟨_, _, rfl, ⟨_, _, _, _, 0, 0, hB, Nat.zero_le _⟩, fun k hk => by simp at hk; omega⟩, ?_⟩
  exact ((Below.refl _ w).alloc (Nat.le_refl _) _).alloc (by simp) _
theorem bCrash_c (F : List Nat) (q : Nat) (S : DSt) (w : World) (h : IsB F q S w) (hf : Fit S 900000) (keep : Nat) (hk : keep < 18446744073709551616) :
    Calls Try.prog 21 #[.pointer (some ⟨q, 0, none⟩), .int .u64 keep] w fun e w' => e = .returned (.tuple #[]) ∧ DidB F q (downD S keep) w w' := by
  refine (bCrash_any F q S S.calls w h (by have := hf.1; omega) keep hk).mono ?_
  rintro e w' ⟨rfl, hd⟩
  refine ⟨rfl, hd.to ?_⟩
  unfold downD
  split <;> exact Nat.le_refl _
end Go.Proofs.Ytndmndchbfmppaa
