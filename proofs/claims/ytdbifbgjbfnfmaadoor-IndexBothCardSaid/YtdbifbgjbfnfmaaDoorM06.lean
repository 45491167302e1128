/-
  Texts of the same seat, one behind the other (merged; each says at its head what it is).
-/
import Derived.Test.YtdbifbgjbfnfmaaDoorM05
import Derived.Test.YtdbifbgjbfnfmaaDoorM01
/-
  Layer 5 (match): what One and All return; all that was in memory stays.
-/
namespace Go.Proofs.YtdbifbgjbfnfmaaDoor
open Go.RowKit Go.Deep
attribute [local go_sem] str_size str_append str_toList str_get str_extract
set_option linter.unusedVariables false
set_option linter.unusedSimpArgs false
/-- What a Kind's struct is, and what its function finds. -/
theorem kind_is (m : Mat) (A : Option Addr) (cap : Nat) (l : List Lab) (hk : 0 ≤ m.1 ∧ m.1 ≤ 3) : ∃ mark nt many F, (F = 83 ∨ F = 84 ∨ F = 86) ∧ kindL m.1 = kindV mark nt many (.func (.func F) #[] #[]) ∧
    ∃ b, (∀ W, m.2.2.2.length ≤ 9223372036854775807 → StrsAt W A m.2.2.2.length m.2.2.2 → Calls Tryd.prog F #[.agg #[.int .i64 m.1, .string (str m.2.1), .string (str m.2.2.1), .slice A m.2.2.2.length cap], .string (str (getL l m.2.1))] W fun e w' => e = .returned (.bool b) ∧ Below W.heap.size W w') ∧ oneL m l = (b != nt) := by
  unfold oneL kindL
  by_cases h0 : m.1 = 0
  · simp only [h0, if_true]
    refine ⟨_, _, _, _, .inl rfl, rfl, (getL l m.2.1 == m.2.2.1), fun W _ _ => ?_, by simp⟩
    have := find1_c m A cap (getL l m.2.1) W
    rw [h0] at this
    exact this
  by_cases h1 : m.1 = 1
  · simp only [h1, if_true]
    refine ⟨_, _, _, _, .inl rfl, rfl, (getL l m.2.1 == m.2.2.1), fun W _ _ => ?_, by simp [bne]⟩
    have := find1_c m A cap (getL l m.2.1) W
    rw [h1] at this
    exact this
  by_cases h2 : m.1 = 2
  · simp only [h2, if_true]
    refine ⟨_, _, _, _, .inr (.inl rfl), rfl, Lib.hasPrefix (getL l m.2.1) m.2.2.1, fun W _ _ => ?_, by simp⟩
    have := find2_c m A cap (getL l m.2.1) W
    rw [h2] at this
    exact this
  have h3 : m.1 = 3 := by omega
  · simp only [h3, if_true]
    refine ⟨_, _, _, _, .inr (.inr rfl), rfl, m.2.2.2.any (fun y => y == getL l m.2.1), fun W h h' => ?_, by simp⟩
    have := find3_c m A cap (getL l m.2.1) W h h'
    rw [h3] at this
    exact this
theorem oneL_none (m : Mat) (l : List Lab) (hk : ¬ (0 ≤ m.1 ∧ m.1 ≤ 3)) : oneL m l = false := by
  unfold oneL
  rw [if_neg (by omega), if_neg (by omega), if_neg (by omega), if_neg (by omega)]
set_option maxHeartbeats 1000000 in
theorem one_c (m : Mat) (A : Option Addr) (cap : Nat) (B : Option Addr) (len capB : Nat) (l : List Lab) (w : World) (hm : m.2.2.2.length ≤ 9223372036854775807) (hS : StrsAt w A m.2.2.2.length m.2.2.2)
    (hl : len ≤ 140737488355328) (hA : LAt w B len l) (hz : ∀ x ∈ l, x.1.length ≤ 4096 ∧ x.2.length ≤ 4096) :
    Calls Tryd.prog 63 #[.agg #[.int .i64 m.1, .string (str m.2.1), .string (str m.2.2.1), .slice A m.2.2.2.length cap], .slice B len capB] w fun e w' => e = .returned (.bool (oneL m l)) ∧ Below w.heap.size w w' := by
  have ck := fun W => kindOf_c m.1 W
  by_cases hk : 0 ≤ m.1 ∧ m.1 ≤ 3
  · rw [decide_eq_true hk] at ck
    obtain ⟨mark, nt, many, F, hF3, e1, b, hF, e2⟩ := kind_is m A cap l hk
    rw [e1] at ck
    rw [e2]
    have cg := fun W h => get_c B len capB l m.2.1 W hl h hz
    obtain ⟨G, hG⟩ : ∃ G, getL l m.2.1 = G := ⟨_, rfl⟩
    rw [hG] at hF cg
    obtain ⟨k, n, v, s⟩ := m
    simp only at ck hF cg hm hS
    obtain ⟨ns, hns⟩ : ∃ ns, s.length = ns := ⟨_, rfl⟩
    rw [hns] at hF hm hS
    simp only [hns]
    have HF := Lib.hid hF
    have HG := Lib.hid cg
    unfold kindV at ck
    clear hk e1 e2 hF hG cg hns
    have d := blk_new w (.cells #[.int .i64 k, .string (str n), .string (str v), .slice A ns cap] 47)
    obtain ⟨wa, hwa⟩ : ∃ wa, wa = w.alloc (.cells #[.int .i64 k, .string (str n), .string (str v), .slice A ns cap] 47) := ⟨_, rfl⟩
    have hba : Below w.heap.size w wa := by rw [hwa]; exact (Below.refl _ _).alloc (Nat.le_refl _) _
    have hsa : w.heap.size < wa.heap.size := by rw [hwa]; simp
    rw [← hwa] at d
    rcases hF3 with rfl | rfl | rfl
    · have hst := fun (a : Addr) (w : World) => run_store Tryd.prog w a (.func (.func 83) #[] #[]) .plain rfl
      have hqm := fun W (hW : Below wa.heap.size wa W) => (hW.block w.heap.size hsa).trans d
      have HQ := Lib.hid hqm
      have HL := Lib.hid (And.intro (hA.below hba) (hS.below hba))
      clear d hqm
      go_enter Tryd.func63, Tryd.ntmps63
      go_wp2_with (go_at_call 58; refine (ck _).mono ?_; rintro e w1 ⟨rfl, hb1⟩; rw [← hwa] at hb1; dsimp only)
      have hs1 := hb1.size
      have dk := blk_new w1 (.cells #[.string (str mark), .bool nt, .bool many, .func (.func 83) #[] #[]] 101)
      have hb2 := hb1.alloc hs1 (.cells #[.string (str mark), .bool nt, .bool many, .func (.func 83) #[] #[]] 101)
      have hs2 : w1.heap.size < (w1.alloc (.cells #[.string (str mark), .bool nt, .bool many, .func (.func 83) #[] #[]] 101)).heap.size := by simp
      have HB2 := Lib.hid hb2
      have hss2 := hb2.size
      obtain ⟨w2, hw2⟩ : ∃ w2, w2 = w1.alloc (.cells #[.string (str mark), .bool nt, .bool many, .func (.func 83) #[] #[]] 101) := ⟨_, rfl⟩
      rw [← hw2] at dk hb2 hs2 HB2 hss2
      rw [← hw2]
      have hf : ∀ W, Below w2.heap.size w2 W → W.cell? ⟨w1.heap.size, 0, none⟩ = some (.string (str mark)) ∧ W.cell? ⟨w1.heap.size, 1, none⟩ = some (.bool nt) ∧ W.cell? ⟨w1.heap.size, 2, none⟩ = some (.bool many) ∧ W.cell? ⟨w1.heap.size, 3, none⟩ = some (.func (.func 83) #[] #[]) ∧
          W.cell? ⟨w.heap.size, 0, none⟩ = some (.int .i64 k) ∧ W.cell? ⟨w.heap.size, 1, none⟩ = some (.string (str n)) ∧ W.cell? ⟨w.heap.size, 2, none⟩ = some (.string (str v)) ∧ W.cell? ⟨w.heap.size, 3, none⟩ = some (.slice A ns cap) ∧ Below w2.heap.size w2 W := fun W hW => by
        have x1 := (hW.block w1.heap.size hs2).trans dk
        have x2 := HQ.out W (HB2.out.trans (hW.mono hss2))
        exact ⟨blk_cell x1 0, blk_cell x1 1, blk_cell x1 2, blk_cell x1 3, blk_cell x2 0, blk_cell x2 1, blk_cell x2 2, blk_cell x2 3, hW⟩
      have HC := Lib.hid hf
      clear hf dk hb2 hb1 ck hw2 hst hs1
      refine wp_region_held_drew (S := fun W => W.cell? ⟨w1.heap.size, 0, none⟩ = some (.string (str mark)) ∧ W.cell? ⟨w1.heap.size, 1, none⟩ = some (.bool nt) ∧ W.cell? ⟨w1.heap.size, 2, none⟩ = some (.bool many) ∧ W.cell? ⟨w1.heap.size, 3, none⟩ = some (.func (.func 83) #[] #[]) ∧
          W.cell? ⟨w.heap.size, 0, none⟩ = some (.int .i64 k) ∧ W.cell? ⟨w.heap.size, 1, none⟩ = some (.string (str n)) ∧ W.cell? ⟨w.heap.size, 2, none⟩ = some (.string (str v)) ∧ W.cell? ⟨w.heap.size, 3, none⟩ = some (.slice A ns cap) ∧ Below w2.heap.size w2 W) (by kernel_rfl) (HC.out _ (Below.drew (Below.refl _ _))) (fun hHeld => ?_)
      refine held_w (i := 0) (d := some 13) (v := ?_) rfl (by kernel_rfl) (by kernel_rfl) (by kernel_rfl) (fun _ _ _ h => h) (by rfl) ?_ hHeld ?_
      rotate_left
      · intro w' hSw; obtain ⟨q0, q1, q2, q3, q4, q5, q6, q7, q8⟩ := hSw; simp only [List.getElem?_toArray, List.getElem?_cons_zero, List.getElem?_cons_succ]; go_simp; try with_reducible rfl
      try simp only [Act.put, List.setIfInBounds_toArray, List.set_cons_zero, List.set_cons_succ]
      refine held_w (i := 1) (d := some 14) (v := ?_) rfl (by kernel_rfl) (by kernel_rfl) (by kernel_rfl) (fun _ _ _ h => h) (by rfl) ?_ hHeld ?_
      rotate_left
      · intro w' hSw; obtain ⟨q0, q1, q2, q3, q4, q5, q6, q7, q8⟩ := hSw; simp only [List.getElem?_toArray, List.getElem?_cons_zero, List.getElem?_cons_succ]; go_simp; try with_reducible rfl
      try simp only [Act.put, List.setIfInBounds_toArray, List.set_cons_zero, List.set_cons_succ]
      refine held_w (i := 2) (d := some 15) (v := ?_) rfl (by kernel_rfl) (by kernel_rfl) (by kernel_rfl) (fun _ _ _ h => h) (by rfl) ?_ hHeld ?_
      rotate_left
      · intro w' hSw; obtain ⟨q0, q1, q2, q3, q4, q5, q6, q7, q8⟩ := hSw; simp only [List.getElem?_toArray, List.getElem?_cons_zero, List.getElem?_cons_succ]; go_simp; try with_reducible rfl
      try simp only [Act.put, List.setIfInBounds_toArray, List.set_cons_zero, List.set_cons_succ]
      refine held_w (i := 3) (d := some 16) (v := ?_) rfl (by kernel_rfl) (by kernel_rfl) (by kernel_rfl) (fun _ _ _ h => h) (by rfl) ?_ hHeld ?_
      rotate_left
      · intro w' hSw; obtain ⟨q0, q1, q2, q3, q4, q5, q6, q7, q8⟩ := hSw; simp only [List.getElem?_toArray, List.getElem?_cons_zero, List.getElem?_cons_succ]; go_simp; try with_reducible rfl
      try simp only [Act.put, List.setIfInBounds_toArray, List.set_cons_zero, List.set_cons_succ]
      refine held_w (i := 4) (d := some 17) (v := ?_) rfl (by kernel_rfl) (by kernel_rfl) (by kernel_rfl) (fun _ _ _ h => h) (by rfl) ?_ hHeld ?_
      rotate_left
      · intro w' hSw; obtain ⟨q0, q1, q2, q3, q4, q5, q6, q7, q8⟩ := hSw; simp only [List.getElem?_toArray, List.getElem?_cons_zero, List.getElem?_cons_succ]; go_simp; try with_reducible rfl
      try simp only [Act.put, List.setIfInBounds_toArray, List.set_cons_zero, List.set_cons_succ]
      refine held_w (i := 5) (d := some 18) (v := ?_) rfl (by kernel_rfl) (by kernel_rfl) (by kernel_rfl) (fun _ _ _ h => h) (by rfl) ?_ hHeld ?_
      rotate_left
      · intro w' hSw; obtain ⟨q0, q1, q2, q3, q4, q5, q6, q7, q8⟩ := hSw; simp only [List.getElem?_toArray, List.getElem?_cons_zero, List.getElem?_cons_succ]; go_simp; try with_reducible rfl
      try simp only [Act.put, List.setIfInBounds_toArray, List.set_cons_zero, List.set_cons_succ]
      refine held_w (i := 6) (d := some 19) (v := ?_) rfl (by kernel_rfl) (by kernel_rfl) (by kernel_rfl) (fun _ _ _ h => h) (by rfl) ?_ hHeld ?_
      rotate_left
      · intro w' hSw; obtain ⟨q0, q1, q2, q3, q4, q5, q6, q7, q8⟩ := hSw; simp only [List.getElem?_toArray, List.getElem?_cons_zero, List.getElem?_cons_succ]; go_simp; try with_reducible rfl
      try simp only [Act.put, List.setIfInBounds_toArray, List.set_cons_zero, List.set_cons_succ]
      refine held_w (i := 7) (d := some 20) (v := ?_) rfl (by kernel_rfl) (by kernel_rfl) (by kernel_rfl) (fun _ _ _ h => h) (by rfl) ?_ hHeld ?_
      rotate_left
      · intro w' hSw; obtain ⟨q0, q1, q2, q3, q4, q5, q6, q7, q8⟩ := hSw; simp only [List.getElem?_toArray, List.getElem?_cons_zero, List.getElem?_cons_succ]; go_simp; try with_reducible rfl
      try simp only [Act.put, List.setIfInBounds_toArray, List.set_cons_zero, List.set_cons_succ]
      refine held_w (i := 10) (d := some 23) (v := ?_) rfl (by kernel_rfl) (by kernel_rfl) (by kernel_rfl) (fun _ _ _ h => h) (by rfl) ?_ hHeld ?_
      rotate_left
      · intro w' hSw; obtain ⟨q0, q1, q2, q3, q4, q5, q6, q7, q8⟩ := hSw; simp only [List.getElem?_toArray, List.getElem?_cons_zero, List.getElem?_cons_succ]; go_simp; try with_reducible rfl
      try simp only [Act.put, List.setIfInBounds_toArray, List.set_cons_zero, List.set_cons_succ]
      refine held_w (i := 11) (d := some 24) (v := ?_) rfl (by kernel_rfl) (by kernel_rfl) (by kernel_rfl) (fun _ _ _ h => h) (by rfl) ?_ hHeld ?_
      rotate_left
      · intro w' hSw; obtain ⟨q0, q1, q2, q3, q4, q5, q6, q7, q8⟩ := hSw; simp only [List.getElem?_toArray, List.getElem?_cons_zero, List.getElem?_cons_succ]; go_simp; try with_reducible rfl
      try simp only [Act.put, List.setIfInBounds_toArray, List.set_cons_zero, List.set_cons_succ]
      refine held_c (i := 8) (by kernel_rfl) (by rfl) (fun K hK => ?_)
      simp only [List.getElem?_toArray, List.getElem?_cons_zero, List.getElem?_cons_succ]
      go_simp
      refine (HG.out _ (HL.out.1.below (HB2.out.trans (hHeld.2.2.2.2.2.2.2.2.mono hss2)))).mono ?_
      rintro e w3 ⟨rfl, hb3⟩
      have hb23 := below2 hHeld.2.2.2.2.2.2.2.2 hb3 hHeld.2.2.2.2.2.2.2.2.size
      refine hK.out _ _ (HC.out _ hb23) (fun hHeld => ?_)
      clear hK K hb3
      try simp only [Act.put, List.setIfInBounds_toArray, List.set_cons_zero, List.set_cons_succ]
      refine held_c (i := 9) (by kernel_rfl) (by rfl) (fun K hK => ?_)
      simp only [List.getElem?_toArray, List.getElem?_cons_zero, List.getElem?_cons_succ]
      go_simp
      refine (HF.out _ hm (HL.out.2.below (HB2.out.trans (hHeld.2.2.2.2.2.2.2.2.mono hss2)))).mono ?_
      rintro e w4 ⟨rfl, hb4⟩
      have hb24 := below2 hHeld.2.2.2.2.2.2.2.2 hb4 hHeld.2.2.2.2.2.2.2.2.size
      refine hK.out _ _ (HC.out _ hb24) (fun hHeld => ?_)
      clear hK K hb4
      try simp only [Act.put, List.setIfInBounds_toArray, List.set_cons_zero, List.set_cons_succ]
      refine held_w (i := 12) (d := some 25) (v := ?_) rfl (by kernel_rfl) (by kernel_rfl) (by kernel_rfl) (fun _ _ _ h => h) (by rfl) ?_ hHeld ?_
      rotate_left
      · intro w' hSw; obtain ⟨q0, q1, q2, q3, q4, q5, q6, q7, q8⟩ := hSw; simp only [List.getElem?_toArray, List.getElem?_cons_zero, List.getElem?_cons_succ]; go_simp; try with_reducible rfl
      try simp only [Act.put, List.setIfInBounds_toArray, List.set_cons_zero, List.set_cons_succ]
      refine held_w (i := 13) (d := some 26) (v := ?_) rfl (by kernel_rfl) (by kernel_rfl) (by kernel_rfl) (fun _ _ _ h => h) (by rfl) ?_ hHeld ?_
      rotate_left
      · intro w' hSw; obtain ⟨q0, q1, q2, q3, q4, q5, q6, q7, q8⟩ := hSw; simp only [List.getElem?_toArray, List.getElem?_cons_zero, List.getElem?_cons_succ]; go_simp; try with_reducible rfl
      try simp only [Act.put, List.setIfInBounds_toArray, List.set_cons_zero, List.set_cons_succ]
      refine held_w (i := 14) (d := some 4) (v := ?_) rfl (by kernel_rfl) (by kernel_rfl) (by kernel_rfl) (fun _ _ _ h => h) (by rfl) ?_ hHeld ?_
      rotate_left
      · intro w' hSw; obtain ⟨q0, q1, q2, q3, q4, q5, q6, q7, q8⟩ := hSw; simp only [List.getElem?_toArray, List.getElem?_cons_zero, List.getElem?_cons_succ]; go_simp; try with_reducible rfl
      try simp only [Act.put, List.setIfInBounds_toArray, List.set_cons_zero, List.set_cons_succ]
      refine wpAnyH_done (by kernel_rfl) ?_ _
      go_wp2_with fail
      go_ret
      exact ⟨rfl, hba.trans ((HB2.out.mono (by omega)).trans (hb24.mono (by omega)))⟩
    · have hst := fun (a : Addr) (w : World) => run_store Tryd.prog w a (.func (.func 84) #[] #[]) .plain rfl
      have hqm := fun W (hW : Below wa.heap.size wa W) => (hW.block w.heap.size hsa).trans d
      have HQ := Lib.hid hqm
      have HL := Lib.hid (And.intro (hA.below hba) (hS.below hba))
      clear d hqm
      go_enter Tryd.func63, Tryd.ntmps63
      go_wp2_with (go_at_call 58; refine (ck _).mono ?_; rintro e w1 ⟨rfl, hb1⟩; rw [← hwa] at hb1; dsimp only)
      have hs1 := hb1.size
      have dk := blk_new w1 (.cells #[.string (str mark), .bool nt, .bool many, .func (.func 84) #[] #[]] 101)
      have hb2 := hb1.alloc hs1 (.cells #[.string (str mark), .bool nt, .bool many, .func (.func 84) #[] #[]] 101)
      have hs2 : w1.heap.size < (w1.alloc (.cells #[.string (str mark), .bool nt, .bool many, .func (.func 84) #[] #[]] 101)).heap.size := by simp
      have HB2 := Lib.hid hb2
      have hss2 := hb2.size
      obtain ⟨w2, hw2⟩ : ∃ w2, w2 = w1.alloc (.cells #[.string (str mark), .bool nt, .bool many, .func (.func 84) #[] #[]] 101) := ⟨_, rfl⟩
      rw [← hw2] at dk hb2 hs2 HB2 hss2
      rw [← hw2]
      have hf : ∀ W, Below w2.heap.size w2 W → W.cell? ⟨w1.heap.size, 0, none⟩ = some (.string (str mark)) ∧ W.cell? ⟨w1.heap.size, 1, none⟩ = some (.bool nt) ∧ W.cell? ⟨w1.heap.size, 2, none⟩ = some (.bool many) ∧ W.cell? ⟨w1.heap.size, 3, none⟩ = some (.func (.func 84) #[] #[]) ∧
          W.cell? ⟨w.heap.size, 0, none⟩ = some (.int .i64 k) ∧ W.cell? ⟨w.heap.size, 1, none⟩ = some (.string (str n)) ∧ W.cell? ⟨w.heap.size, 2, none⟩ = some (.string (str v)) ∧ W.cell? ⟨w.heap.size, 3, none⟩ = some (.slice A ns cap) ∧ Below w2.heap.size w2 W := fun W hW => by
        have x1 := (hW.block w1.heap.size hs2).trans dk
        have x2 := HQ.out W (HB2.out.trans (hW.mono hss2))
        exact ⟨blk_cell x1 0, blk_cell x1 1, blk_cell x1 2, blk_cell x1 3, blk_cell x2 0, blk_cell x2 1, blk_cell x2 2, blk_cell x2 3, hW⟩
      have HC := Lib.hid hf
      clear hf dk hb2 hb1 ck hw2 hst hs1
      refine wp_region_held_drew (S := fun W => W.cell? ⟨w1.heap.size, 0, none⟩ = some (.string (str mark)) ∧ W.cell? ⟨w1.heap.size, 1, none⟩ = some (.bool nt) ∧ W.cell? ⟨w1.heap.size, 2, none⟩ = some (.bool many) ∧ W.cell? ⟨w1.heap.size, 3, none⟩ = some (.func (.func 84) #[] #[]) ∧
          W.cell? ⟨w.heap.size, 0, none⟩ = some (.int .i64 k) ∧ W.cell? ⟨w.heap.size, 1, none⟩ = some (.string (str n)) ∧ W.cell? ⟨w.heap.size, 2, none⟩ = some (.string (str v)) ∧ W.cell? ⟨w.heap.size, 3, none⟩ = some (.slice A ns cap) ∧ Below w2.heap.size w2 W) (by kernel_rfl) (HC.out _ (Below.drew (Below.refl _ _))) (fun hHeld => ?_)
      refine held_w (i := 0) (d := some 13) (v := ?_) rfl (by kernel_rfl) (by kernel_rfl) (by kernel_rfl) (fun _ _ _ h => h) (by rfl) ?_ hHeld ?_
      rotate_left
      · intro w' hSw; obtain ⟨q0, q1, q2, q3, q4, q5, q6, q7, q8⟩ := hSw; simp only [List.getElem?_toArray, List.getElem?_cons_zero, List.getElem?_cons_succ]; go_simp; try with_reducible rfl
      try simp only [Act.put, List.setIfInBounds_toArray, List.set_cons_zero, List.set_cons_succ]
      refine held_w (i := 1) (d := some 14) (v := ?_) rfl (by kernel_rfl) (by kernel_rfl) (by kernel_rfl) (fun _ _ _ h => h) (by rfl) ?_ hHeld ?_
      rotate_left
      · intro w' hSw; obtain ⟨q0, q1, q2, q3, q4, q5, q6, q7, q8⟩ := hSw; simp only [List.getElem?_toArray, List.getElem?_cons_zero, List.getElem?_cons_succ]; go_simp; try with_reducible rfl
      try simp only [Act.put, List.setIfInBounds_toArray, List.set_cons_zero, List.set_cons_succ]
      refine held_w (i := 2) (d := some 15) (v := ?_) rfl (by kernel_rfl) (by kernel_rfl) (by kernel_rfl) (fun _ _ _ h => h) (by rfl) ?_ hHeld ?_
      rotate_left
      · intro w' hSw; obtain ⟨q0, q1, q2, q3, q4, q5, q6, q7, q8⟩ := hSw; simp only [List.getElem?_toArray, List.getElem?_cons_zero, List.getElem?_cons_succ]; go_simp; try with_reducible rfl
      try simp only [Act.put, List.setIfInBounds_toArray, List.set_cons_zero, List.set_cons_succ]
      refine held_w (i := 3) (d := some 16) (v := ?_) rfl (by kernel_rfl) (by kernel_rfl) (by kernel_rfl) (fun _ _ _ h => h) (by rfl) ?_ hHeld ?_
      rotate_left
      · intro w' hSw; obtain ⟨q0, q1, q2, q3, q4, q5, q6, q7, q8⟩ := hSw; simp only [List.getElem?_toArray, List.getElem?_cons_zero, List.getElem?_cons_succ]; go_simp; try with_reducible rfl
      try simp only [Act.put, List.setIfInBounds_toArray, List.set_cons_zero, List.set_cons_succ]
      refine held_w (i := 4) (d := some 17) (v := ?_) rfl (by kernel_rfl) (by kernel_rfl) (by kernel_rfl) (fun _ _ _ h => h) (by rfl) ?_ hHeld ?_
      rotate_left
      · intro w' hSw; obtain ⟨q0, q1, q2, q3, q4, q5, q6, q7, q8⟩ := hSw; simp only [List.getElem?_toArray, List.getElem?_cons_zero, List.getElem?_cons_succ]; go_simp; try with_reducible rfl
      try simp only [Act.put, List.setIfInBounds_toArray, List.set_cons_zero, List.set_cons_succ]
      refine held_w (i := 5) (d := some 18) (v := ?_) rfl (by kernel_rfl) (by kernel_rfl) (by kernel_rfl) (fun _ _ _ h => h) (by rfl) ?_ hHeld ?_
      rotate_left
      · intro w' hSw; obtain ⟨q0, q1, q2, q3, q4, q5, q6, q7, q8⟩ := hSw; simp only [List.getElem?_toArray, List.getElem?_cons_zero, List.getElem?_cons_succ]; go_simp; try with_reducible rfl
      try simp only [Act.put, List.setIfInBounds_toArray, List.set_cons_zero, List.set_cons_succ]
      refine held_w (i := 6) (d := some 19) (v := ?_) rfl (by kernel_rfl) (by kernel_rfl) (by kernel_rfl) (fun _ _ _ h => h) (by rfl) ?_ hHeld ?_
      rotate_left
      · intro w' hSw; obtain ⟨q0, q1, q2, q3, q4, q5, q6, q7, q8⟩ := hSw; simp only [List.getElem?_toArray, List.getElem?_cons_zero, List.getElem?_cons_succ]; go_simp; try with_reducible rfl
      try simp only [Act.put, List.setIfInBounds_toArray, List.set_cons_zero, List.set_cons_succ]
      refine held_w (i := 7) (d := some 20) (v := ?_) rfl (by kernel_rfl) (by kernel_rfl) (by kernel_rfl) (fun _ _ _ h => h) (by rfl) ?_ hHeld ?_
      rotate_left
      · intro w' hSw; obtain ⟨q0, q1, q2, q3, q4, q5, q6, q7, q8⟩ := hSw; simp only [List.getElem?_toArray, List.getElem?_cons_zero, List.getElem?_cons_succ]; go_simp; try with_reducible rfl
      try simp only [Act.put, List.setIfInBounds_toArray, List.set_cons_zero, List.set_cons_succ]
      refine held_w (i := 10) (d := some 23) (v := ?_) rfl (by kernel_rfl) (by kernel_rfl) (by kernel_rfl) (fun _ _ _ h => h) (by rfl) ?_ hHeld ?_
      rotate_left
      · intro w' hSw; obtain ⟨q0, q1, q2, q3, q4, q5, q6, q7, q8⟩ := hSw; simp only [List.getElem?_toArray, List.getElem?_cons_zero, List.getElem?_cons_succ]; go_simp; try with_reducible rfl
      try simp only [Act.put, List.setIfInBounds_toArray, List.set_cons_zero, List.set_cons_succ]
      refine held_w (i := 11) (d := some 24) (v := ?_) rfl (by kernel_rfl) (by kernel_rfl) (by kernel_rfl) (fun _ _ _ h => h) (by rfl) ?_ hHeld ?_
      rotate_left
      · intro w' hSw; obtain ⟨q0, q1, q2, q3, q4, q5, q6, q7, q8⟩ := hSw; simp only [List.getElem?_toArray, List.getElem?_cons_zero, List.getElem?_cons_succ]; go_simp; try with_reducible rfl
      try simp only [Act.put, List.setIfInBounds_toArray, List.set_cons_zero, List.set_cons_succ]
      refine held_c (i := 8) (by kernel_rfl) (by rfl) (fun K hK => ?_)
      simp only [List.getElem?_toArray, List.getElem?_cons_zero, List.getElem?_cons_succ]
      go_simp
      refine (HG.out _ (HL.out.1.below (HB2.out.trans (hHeld.2.2.2.2.2.2.2.2.mono hss2)))).mono ?_
      rintro e w3 ⟨rfl, hb3⟩
      have hb23 := below2 hHeld.2.2.2.2.2.2.2.2 hb3 hHeld.2.2.2.2.2.2.2.2.size
      refine hK.out _ _ (HC.out _ hb23) (fun hHeld => ?_)
      clear hK K hb3
      try simp only [Act.put, List.setIfInBounds_toArray, List.set_cons_zero, List.set_cons_succ]
      refine held_c (i := 9) (by kernel_rfl) (by rfl) (fun K hK => ?_)
      simp only [List.getElem?_toArray, List.getElem?_cons_zero, List.getElem?_cons_succ]
      go_simp
      refine (HF.out _ hm (HL.out.2.below (HB2.out.trans (hHeld.2.2.2.2.2.2.2.2.mono hss2)))).mono ?_
      rintro e w4 ⟨rfl, hb4⟩
      have hb24 := below2 hHeld.2.2.2.2.2.2.2.2 hb4 hHeld.2.2.2.2.2.2.2.2.size
      refine hK.out _ _ (HC.out _ hb24) (fun hHeld => ?_)
      clear hK K hb4
      try simp only [Act.put, List.setIfInBounds_toArray, List.set_cons_zero, List.set_cons_succ]
      refine held_w (i := 12) (d := some 25) (v := ?_) rfl (by kernel_rfl) (by kernel_rfl) (by kernel_rfl) (fun _ _ _ h => h) (by rfl) ?_ hHeld ?_
      rotate_left
      · intro w' hSw; obtain ⟨q0, q1, q2, q3, q4, q5, q6, q7, q8⟩ := hSw; simp only [List.getElem?_toArray, List.getElem?_cons_zero, List.getElem?_cons_succ]; go_simp; try with_reducible rfl
      try simp only [Act.put, List.setIfInBounds_toArray, List.set_cons_zero, List.set_cons_succ]
      refine held_w (i := 13) (d := some 26) (v := ?_) rfl (by kernel_rfl) (by kernel_rfl) (by kernel_rfl) (fun _ _ _ h => h) (by rfl) ?_ hHeld ?_
      rotate_left
      · intro w' hSw; obtain ⟨q0, q1, q2, q3, q4, q5, q6, q7, q8⟩ := hSw; simp only [List.getElem?_toArray, List.getElem?_cons_zero, List.getElem?_cons_succ]; go_simp; try with_reducible rfl
      try simp only [Act.put, List.setIfInBounds_toArray, List.set_cons_zero, List.set_cons_succ]
      refine held_w (i := 14) (d := some 4) (v := ?_) rfl (by kernel_rfl) (by kernel_rfl) (by kernel_rfl) (fun _ _ _ h => h) (by rfl) ?_ hHeld ?_
      rotate_left
      · intro w' hSw; obtain ⟨q0, q1, q2, q3, q4, q5, q6, q7, q8⟩ := hSw; simp only [List.getElem?_toArray, List.getElem?_cons_zero, List.getElem?_cons_succ]; go_simp; try with_reducible rfl
      try simp only [Act.put, List.setIfInBounds_toArray, List.set_cons_zero, List.set_cons_succ]
      refine wpAnyH_done (by kernel_rfl) ?_ _
      go_wp2_with fail
      go_ret
      exact ⟨rfl, hba.trans ((HB2.out.mono (by omega)).trans (hb24.mono (by omega)))⟩
    · have hst := fun (a : Addr) (w : World) => run_store Tryd.prog w a (.func (.func 86) #[] #[]) .plain rfl
      have hqm := fun W (hW : Below wa.heap.size wa W) => (hW.block w.heap.size hsa).trans d
      have HQ := Lib.hid hqm
      have HL := Lib.hid (And.intro (hA.below hba) (hS.below hba))
      clear d hqm
      go_enter Tryd.func63, Tryd.ntmps63
      go_wp2_with (go_at_call 58; refine (ck _).mono ?_; rintro e w1 ⟨rfl, hb1⟩; rw [← hwa] at hb1; dsimp only)
      have hs1 := hb1.size
      have dk := blk_new w1 (.cells #[.string (str mark), .bool nt, .bool many, .func (.func 86) #[] #[]] 101)
      have hb2 := hb1.alloc hs1 (.cells #[.string (str mark), .bool nt, .bool many, .func (.func 86) #[] #[]] 101)
      have hs2 : w1.heap.size < (w1.alloc (.cells #[.string (str mark), .bool nt, .bool many, .func (.func 86) #[] #[]] 101)).heap.size := by simp
      have HB2 := Lib.hid hb2
      have hss2 := hb2.size
      obtain ⟨w2, hw2⟩ : ∃ w2, w2 = w1.alloc (.cells #[.string (str mark), .bool nt, .bool many, .func (.func 86) #[] #[]] 101) := ⟨_, rfl⟩
      rw [← hw2] at dk hb2 hs2 HB2 hss2
      rw [← hw2]
      have hf : ∀ W, Below w2.heap.size w2 W → W.cell? ⟨w1.heap.size, 0, none⟩ = some (.string (str mark)) ∧ W.cell? ⟨w1.heap.size, 1, none⟩ = some (.bool nt) ∧ W.cell? ⟨w1.heap.size, 2, none⟩ = some (.bool many) ∧ W.cell? ⟨w1.heap.size, 3, none⟩ = some (.func (.func 86) #[] #[]) ∧
          W.cell? ⟨w.heap.size, 0, none⟩ = some (.int .i64 k) ∧ W.cell? ⟨w.heap.size, 1, none⟩ = some (.string (str n)) ∧ W.cell? ⟨w.heap.size, 2, none⟩ = some (.string (str v)) ∧ W.cell? ⟨w.heap.size, 3, none⟩ = some (.slice A ns cap) ∧ Below w2.heap.size w2 W := fun W hW => by
        have x1 := (hW.block w1.heap.size hs2).trans dk
        have x2 := HQ.out W (HB2.out.trans (hW.mono hss2))
        exact ⟨blk_cell x1 0, blk_cell x1 1, blk_cell x1 2, blk_cell x1 3, blk_cell x2 0, blk_cell x2 1, blk_cell x2 2, blk_cell x2 3, hW⟩
      have HC := Lib.hid hf
      clear hf dk hb2 hb1 ck hw2 hst hs1
      refine wp_region_held_drew (S := fun W => W.cell? ⟨w1.heap.size, 0, none⟩ = some (.string (str mark)) ∧ W.cell? ⟨w1.heap.size, 1, none⟩ = some (.bool nt) ∧ W.cell? ⟨w1.heap.size, 2, none⟩ = some (.bool many) ∧ W.cell? ⟨w1.heap.size, 3, none⟩ = some (.func (.func 86) #[] #[]) ∧
          W.cell? ⟨w.heap.size, 0, none⟩ = some (.int .i64 k) ∧ W.cell? ⟨w.heap.size, 1, none⟩ = some (.string (str n)) ∧ W.cell? ⟨w.heap.size, 2, none⟩ = some (.string (str v)) ∧ W.cell? ⟨w.heap.size, 3, none⟩ = some (.slice A ns cap) ∧ Below w2.heap.size w2 W) (by kernel_rfl) (HC.out _ (Below.drew (Below.refl _ _))) (fun hHeld => ?_)
      refine held_w (i := 0) (d := some 13) (v := ?_) rfl (by kernel_rfl) (by kernel_rfl) (by kernel_rfl) (fun _ _ _ h => h) (by rfl) ?_ hHeld ?_
      rotate_left
      · intro w' hSw; obtain ⟨q0, q1, q2, q3, q4, q5, q6, q7, q8⟩ := hSw; simp only [List.getElem?_toArray, List.getElem?_cons_zero, List.getElem?_cons_succ]; go_simp; try with_reducible rfl
      try simp only [Act.put, List.setIfInBounds_toArray, List.set_cons_zero, List.set_cons_succ]
      refine held_w (i := 1) (d := some 14) (v := ?_) rfl (by kernel_rfl) (by kernel_rfl) (by kernel_rfl) (fun _ _ _ h => h) (by rfl) ?_ hHeld ?_
      rotate_left
      · intro w' hSw; obtain ⟨q0, q1, q2, q3, q4, q5, q6, q7, q8⟩ := hSw; simp only [List.getElem?_toArray, List.getElem?_cons_zero, List.getElem?_cons_succ]; go_simp; try with_reducible rfl
      try simp only [Act.put, List.setIfInBounds_toArray, List.set_cons_zero, List.set_cons_succ]
      refine held_w (i := 2) (d := some 15) (v := ?_) rfl (by kernel_rfl) (by kernel_rfl) (by kernel_rfl) (fun _ _ _ h => h) (by rfl) ?_ hHeld ?_
      rotate_left
      · intro w' hSw; obtain ⟨q0, q1, q2, q3, q4, q5, q6, q7, q8⟩ := hSw; simp only [List.getElem?_toArray, List.getElem?_cons_zero, List.getElem?_cons_succ]; go_simp; try with_reducible rfl
      try simp only [Act.put, List.setIfInBounds_toArray, List.set_cons_zero, List.set_cons_succ]
      refine held_w (i := 3) (d := some 16) (v := ?_) rfl (by kernel_rfl) (by kernel_rfl) (by kernel_rfl) (fun _ _ _ h => h) (by rfl) ?_ hHeld ?_
      rotate_left
      · intro w' hSw; obtain ⟨q0, q1, q2, q3, q4, q5, q6, q7, q8⟩ := hSw; simp only [List.getElem?_toArray, List.getElem?_cons_zero, List.getElem?_cons_succ]; go_simp; try with_reducible rfl
      try simp only [Act.put, List.setIfInBounds_toArray, List.set_cons_zero, List.set_cons_succ]
      refine held_w (i := 4) (d := some 17) (v := ?_) rfl (by kernel_rfl) (by kernel_rfl) (by kernel_rfl) (fun _ _ _ h => h) (by rfl) ?_ hHeld ?_
      rotate_left
      · intro w' hSw; obtain ⟨q0, q1, q2, q3, q4, q5, q6, q7, q8⟩ := hSw; simp only [List.getElem?_toArray, List.getElem?_cons_zero, List.getElem?_cons_succ]; go_simp; try with_reducible rfl
      try simp only [Act.put, List.setIfInBounds_toArray, List.set_cons_zero, List.set_cons_succ]
      refine held_w (i := 5) (d := some 18) (v := ?_) rfl (by kernel_rfl) (by kernel_rfl) (by kernel_rfl) (fun _ _ _ h => h) (by rfl) ?_ hHeld ?_
      rotate_left
      · intro w' hSw; obtain ⟨q0, q1, q2, q3, q4, q5, q6, q7, q8⟩ := hSw; simp only [List.getElem?_toArray, List.getElem?_cons_zero, List.getElem?_cons_succ]; go_simp; try with_reducible rfl
      try simp only [Act.put, List.setIfInBounds_toArray, List.set_cons_zero, List.set_cons_succ]
      refine held_w (i := 6) (d := some 19) (v := ?_) rfl (by kernel_rfl) (by kernel_rfl) (by kernel_rfl) (fun _ _ _ h => h) (by rfl) ?_ hHeld ?_
      rotate_left
      · intro w' hSw; obtain ⟨q0, q1, q2, q3, q4, q5, q6, q7, q8⟩ := hSw; simp only [List.getElem?_toArray, List.getElem?_cons_zero, List.getElem?_cons_succ]; go_simp; try with_reducible rfl
      try simp only [Act.put, List.setIfInBounds_toArray, List.set_cons_zero, List.set_cons_succ]
      refine held_w (i := 7) (d := some 20) (v := ?_) rfl (by kernel_rfl) (by kernel_rfl) (by kernel_rfl) (fun _ _ _ h => h) (by rfl) ?_ hHeld ?_
      rotate_left
      · intro w' hSw; obtain ⟨q0, q1, q2, q3, q4, q5, q6, q7, q8⟩ := hSw; simp only [List.getElem?_toArray, List.getElem?_cons_zero, List.getElem?_cons_succ]; go_simp; try with_reducible rfl
      try simp only [Act.put, List.setIfInBounds_toArray, List.set_cons_zero, List.set_cons_succ]
      refine held_w (i := 10) (d := some 23) (v := ?_) rfl (by kernel_rfl) (by kernel_rfl) (by kernel_rfl) (fun _ _ _ h => h) (by rfl) ?_ hHeld ?_
      rotate_left
      · intro w' hSw; obtain ⟨q0, q1, q2, q3, q4, q5, q6, q7, q8⟩ := hSw; simp only [List.getElem?_toArray, List.getElem?_cons_zero, List.getElem?_cons_succ]; go_simp; try with_reducible rfl
      try simp only [Act.put, List.setIfInBounds_toArray, List.set_cons_zero, List.set_cons_succ]
      refine held_w (i := 11) (d := some 24) (v := ?_) rfl (by kernel_rfl) (by kernel_rfl) (by kernel_rfl) (fun _ _ _ h => h) (by rfl) ?_ hHeld ?_
      rotate_left
      · intro w' hSw; obtain ⟨q0, q1, q2, q3, q4, q5, q6, q7, q8⟩ := hSw; simp only [List.getElem?_toArray, List.getElem?_cons_zero, List.getElem?_cons_succ]; go_simp; try with_reducible rfl
      try simp only [Act.put, List.setIfInBounds_toArray, List.set_cons_zero, List.set_cons_succ]
      refine held_c (i := 8) (by kernel_rfl) (by rfl) (fun K hK => ?_)
      simp only [List.getElem?_toArray, List.getElem?_cons_zero, List.getElem?_cons_succ]
      go_simp
      refine (HG.out _ (HL.out.1.below (HB2.out.trans (hHeld.2.2.2.2.2.2.2.2.mono hss2)))).mono ?_
      rintro e w3 ⟨rfl, hb3⟩
      have hb23 := below2 hHeld.2.2.2.2.2.2.2.2 hb3 hHeld.2.2.2.2.2.2.2.2.size
      refine hK.out _ _ (HC.out _ hb23) (fun hHeld => ?_)
      clear hK K hb3
      try simp only [Act.put, List.setIfInBounds_toArray, List.set_cons_zero, List.set_cons_succ]
      refine held_c (i := 9) (by kernel_rfl) (by rfl) (fun K hK => ?_)
      simp only [List.getElem?_toArray, List.getElem?_cons_zero, List.getElem?_cons_succ]
      go_simp
      refine (HF.out _ hm (HL.out.2.below (HB2.out.trans (hHeld.2.2.2.2.2.2.2.2.mono hss2)))).mono ?_
      rintro e w4 ⟨rfl, hb4⟩
      have hb24 := below2 hHeld.2.2.2.2.2.2.2.2 hb4 hHeld.2.2.2.2.2.2.2.2.size
      refine hK.out _ _ (HC.out _ hb24) (fun hHeld => ?_)
      clear hK K hb4
      try simp only [Act.put, List.setIfInBounds_toArray, List.set_cons_zero, List.set_cons_succ]
      refine held_w (i := 12) (d := some 25) (v := ?_) rfl (by kernel_rfl) (by kernel_rfl) (by kernel_rfl) (fun _ _ _ h => h) (by rfl) ?_ hHeld ?_
      rotate_left
      · intro w' hSw; obtain ⟨q0, q1, q2, q3, q4, q5, q6, q7, q8⟩ := hSw; simp only [List.getElem?_toArray, List.getElem?_cons_zero, List.getElem?_cons_succ]; go_simp; try with_reducible rfl
      try simp only [Act.put, List.setIfInBounds_toArray, List.set_cons_zero, List.set_cons_succ]
      refine held_w (i := 13) (d := some 26) (v := ?_) rfl (by kernel_rfl) (by kernel_rfl) (by kernel_rfl) (fun _ _ _ h => h) (by rfl) ?_ hHeld ?_
      rotate_left
      · intro w' hSw; obtain ⟨q0, q1, q2, q3, q4, q5, q6, q7, q8⟩ := hSw; simp only [List.getElem?_toArray, List.getElem?_cons_zero, List.getElem?_cons_succ]; go_simp; try with_reducible rfl
      try simp only [Act.put, List.setIfInBounds_toArray, List.set_cons_zero, List.set_cons_succ]
      refine held_w (i := 14) (d := some 4) (v := ?_) rfl (by kernel_rfl) (by kernel_rfl) (by kernel_rfl) (fun _ _ _ h => h) (by rfl) ?_ hHeld ?_
      rotate_left
      · intro w' hSw; obtain ⟨q0, q1, q2, q3, q4, q5, q6, q7, q8⟩ := hSw; simp only [List.getElem?_toArray, List.getElem?_cons_zero, List.getElem?_cons_succ]; go_simp; try with_reducible rfl
      try simp only [Act.put, List.setIfInBounds_toArray, List.set_cons_zero, List.set_cons_succ]
      refine wpAnyH_done (by kernel_rfl) ?_ _
      go_wp2_with fail
      go_ret
      exact ⟨rfl, hba.trans ((HB2.out.mono (by omega)).trans (hb24.mono (by omega)))⟩
  · rw [decide_eq_false hk] at ck
    rw [oneL_none m l hk]
    have e : kindL m.1 = kindV [] false false .nilFunc := by
      unfold kindL
      rw [if_neg (by omega), if_neg (by omega), if_neg (by omega), if_neg (by omega)]
    rw [e] at ck
    unfold kindV at ck
    have hst := fun (a : Addr) (w : World) => run_store Tryd.prog w a .nilFunc .plain rfl
    clear hk e
    go_enter Tryd.func63, Tryd.ntmps63
    go_wp2_with (go_at_call 58; refine (ck _).mono ?_; rintro e w1 ⟨rfl, hb1⟩; have hsz1 := hb1.size; dsimp only)
    go_quiet (fail)
    go_wp2_with fail
    go_ret
    exact ⟨rfl, below_drewN ((((Below.refl _ _).alloc (Nat.le_refl _) _).trans (hb1.mono (by simp))).alloc (by simp at hsz1; omega) _) _⟩
end Go.Proofs.YtdbifbgjbfnfmaaDoor
/-
  Layer 5 (match): what the document's One returns; it writes nothing that was there.
-/
namespace Go.Proofs.YtdbifbgjbfnfmaaDoor
open Go.RowKit Go.Deep
attribute [local go_sem] str_size str_append str_toList str_get str_extract
set_option linter.unusedVariables false
set_option linter.unusedSimpArgs false
theorem ret_b {a b : Bool} (h : a = b) : Ending.returned (.bool a) = .returned (.bool b) := by rw [h]
theorem pre_take (v p : List UInt8) : Lib.hasPrefix v p = (decide (p.length ≤ v.length) && (v.take p.length == p)) := by
  unfold Lib.hasPrefix
  rw [Bool.eq_iff_iff, List.isPrefixOf_iff_prefix, Bool.and_eq_true, decide_eq_true_eq, beq_iff_eq]
  constructor
  · intro h; exact ⟨h.length_le, (List.prefix_iff_eq_take.1 h).symm⟩
  · rintro ⟨_, h⟩; rw [List.prefix_iff_eq_take]; exact h.symm
set_option maxHeartbeats 1000000 in
theorem refOne_c (m : Mat) (A : Option Addr) (cap : Nat) (B : Option Addr) (len capB : Nat) (l : List Lab) (w : World) (hm : m.2.2.2.length ≤ 9223372036854775807) (hS : StrsAt w A m.2.2.2.length m.2.2.2)
    (hl : len ≤ 140737488355328) (hA : LAt w B len l) (hz : ∀ x ∈ l, x.1.length ≤ 4096 ∧ x.2.length ≤ 4096) :
    Calls Tryd.prog 68 #[.agg #[.int .i64 m.1, .string (str m.2.1), .string (str m.2.2.1), .slice A m.2.2.2.length cap], .slice B len capB] w fun e w' => e = .returned (.bool (oneL m l)) ∧ Below w.heap.size w w' := by
  have cg := fun W h => refGet_c B len capB l m.2.1 W hl h hz
  obtain ⟨R, hR⟩ : ∃ R, oneL m l = R := ⟨_, rfl⟩
  rw [hR]
  unfold oneL at hR
  obtain ⟨G, hG⟩ : ∃ G, getL l m.2.1 = G := ⟨_, rfl⟩
  rw [hG] at cg hR
  obtain ⟨k, n, v, s⟩ := m
  simp only at cg hm hS hR
  obtain ⟨ns, hns⟩ : ∃ ns, s.length = ns := ⟨_, rfl⟩
  simp only [hns]
  rw [hns] at hm hS
  have hba : Below w.heap.size w (w.alloc (.cells #[.int .i64 k, .string (str n), .string (str v), .slice A ns cap] 47)) := (Below.refl _ _).alloc (Nat.le_refl _) _
  have HS := Lib.hid (hS.below hba)
  have HL := Lib.hid (hA.below hba)
  have HN := Lib.hid hns
  clear hns hG hS
  by_cases h0 : k = 0
  · subst h0
    rw [if_pos rfl] at hR
    subst hR
    go_enter Tryd.func68, Tryd.ntmps68
    go_wp2_with (go_at_call 98; refine (cg _ HL.out).mono ?_; rintro e w1 ⟨rfl, rfl⟩; dsimp only)
    go_ret
    exact ⟨rfl, hba⟩
  rw [if_neg h0] at hR
  have t0 : (k == 0) = false := by simpa using h0
  by_cases h1 : k = 1
  · subst h1
    rw [if_pos rfl] at hR
    subst hR
    go_enter Tryd.func68, Tryd.ntmps68
    go_wp2_with (go_at_call 98; refine (cg _ HL.out).mono ?_; rintro e w1 ⟨rfl, rfl⟩; dsimp only)
    go_ret
    exact ⟨rfl, hba⟩
  rw [if_neg h1] at hR
  have t1 : (k == 1) = false := by simpa using h1
  by_cases h2 : k = 2
  · subst h2
    rw [if_pos rfl, pre_take] at hR
    clear h0 h1
    by_cases hle : v.length ≤ G.length
    · rw [decide_eq_true hle, Bool.true_and] at hR
      subst hR
      go_enter Tryd.func68, Tryd.ntmps68
      go_wp2_with (go_at_call 98; refine (cg _ HL.out).mono ?_; rintro e w1 ⟨rfl, rfl⟩; dsimp only)
      go_quiet (fail)
      go_wp2_with fail
      go_ret
      exact ⟨rfl, below_drewN hba _⟩
    · rw [decide_eq_false hle, Bool.false_and] at hR
      subst hR
      have td : decide ((v.length : Int) ≤ (G.length : Int)) = false := by simpa using hle
      go_enter Tryd.func68, Tryd.ntmps68
      go_wp2_with (go_at_call 98; refine (cg _ HL.out).mono ?_; rintro e w1 ⟨rfl, rfl⟩; dsimp only)
      go_quiet (fail)
      go_wp2_with fail
      go_ret
      exact ⟨rfl, below_drewN hba _⟩
  rw [if_neg h2] at hR
  have t2 : (k == 2) = false := by simpa using h2
  by_cases h3 : k = 3
  · subst h3
    rw [if_pos rfl] at hR
    have HR := Lib.hid hR
    clear h0 h1 h2 hR
    have d := blk_new w (.cells #[.int .i64 3, .string (str n), .string (str v), .slice A ns cap] 47)
    have d3 := blk_cell d 3
    simp only [List.getElem?_toArray, List.getElem?_cons_zero, List.getElem?_cons_succ] at d3
    go_enter Tryd.func68, Tryd.ntmps68
    go_wp2_with (go_at_call 98; refine (cg _ HL.out).mono ?_; rintro e w1 ⟨rfl, rfl⟩; dsimp only)
    go_loopw [6] (fun c wr => ∃ i : Nat, i ≤ ns ∧ c = .int .i64 i ∧ Hid ((s.drop i).any (fun x => x == G) = R) ∧ wr = w.alloc (.cells #[.int .i64 3, .string (str n), .string (str v), .slice A ns cap] 47)) (fun c _ => ns - (intOf c).toNat)
    case atStart => exact ⟨0, Nat.zero_le _, rfl, HR.out, rfl⟩
    case round =>
      obtain ⟨i, hi, rfl, HI, rfl⟩ := hrel
      by_cases hlt : i < ns
      · have hls : i < s.length := by have := HN.out; omega
        obtain ⟨h1, ad, rfl, h2, h3⟩ := HS.out.2 i hls
        have hst := drop_any (fun x => x == G) s i hls
        rw [HI.out] at hst
        cases hq : (s[i] == G) with
        | true =>
          have e : R = true := by rw [hst, hq]; rfl
          subst e
          clear hst
          go_wp2_with fail
          go_ret
          exact ⟨rfl, hba⟩
        | false =>
          have e2 : (s.drop (i + 1)).any (fun x => x == G) = R := by rw [hst, hq]; rfl
          have HE := Lib.hid e2
          clear hst e2
          go_wp2_with fail
          go_roundw
          case rel => exact ⟨i + 1, by omega, by go_num, HE.out, by first | rfl | trivial⟩
          case measure => simp [intOf]; omega
      · obtain rfl : i = ns := by omega
        have e := HI.out
        rw [← HN.out, List.drop_length] at e
        have e2 : R = false := e.symm
        subst e2
        clear e
        go_wp2_with fail
        go_ret
        exact ⟨rfl, hba⟩
  rw [if_neg h3] at hR
  have t3 : (k == 3) = false := by simpa using h3
  subst hR
  clear h0 h1 h2 h3
  go_enter Tryd.func68, Tryd.ntmps68
  go_wp2_with (go_at_call 98; refine (cg _ HL.out).mono ?_; rintro e w1 ⟨rfl, rfl⟩; dsimp only)
  go_ret
  exact ⟨rfl, hba⟩
end Go.Proofs.YtdbifbgjbfnfmaaDoor
/-
  Layer 5 (match): what All returns, the program's and the document's; whether labels are large.
-/
namespace Go.Proofs.YtdbifbgjbfnfmaaDoor
open Go.RowKit Go.Deep
attribute [local go_sem] str_size str_append str_toList str_get str_extract
set_option linter.unusedVariables false
set_option linter.unusedSimpArgs false
def allL (ms : List Mat) (l : List Lab) : Bool := ms.all fun m => oneL m l
theorem drop_all {α : Type} (p : α → Bool) (l : List α) (i : Nat) (h : i < l.length) : (l.drop i).all p = (p l[i] && (l.drop (i + 1)).all p) := by
  rw [List.drop_eq_getElem_cons h, List.all_cons]
theorem large_small {l : List Lab} (h : heavyL l = false) : l.length ≤ 2048 ∧ ∀ x ∈ l, x.1.length ≤ 4096 ∧ x.2.length ≤ 4096 := by
  have h1 : l.length + sizeL l ≤ 2048 := by unfold heavyL at h; simpa using h
  refine ⟨by omega, fun x hx => ?_⟩
  have := sizeL_mem l x hx
  omega
set_option maxHeartbeats 1000000 in
theorem refAll_c (A : Option Addr) (len cap : Nat) (ms : List Mat) (B : Option Addr) (lenB capB : Nat) (l : List Lab) (w : World) (hl : len ≤ 9223372036854775807) (hM : MsAt w A len ms)
    (hlB : lenB ≤ 140737488355328) (hB : LAt w B lenB l) (hz : ∀ x ∈ l, x.1.length ≤ 4096 ∧ x.2.length ≤ 4096) :
    Calls Tryd.prog 41 #[.slice A len cap, .slice B lenB capB] w fun e w' => e = .returned (.bool (allL ms l)) ∧ Below w.heap.size w w' := by
  have hle := hM.1
  subst hle
  obtain ⟨R, hR⟩ : ∃ R, allL ms l = R := ⟨_, rfl⟩
  rw [hR]
  unfold allL at hR
  have HR := Lib.hid hR
  clear hR
  go_enter Tryd.func41, Tryd.ntmps41
  go_wp2_with fail
  go_loopw [5] (fun c wr => ∃ i : Nat, i ≤ ms.length ∧ c = .int .i64 i ∧ Hid ((ms.drop i).all (fun m => oneL m l) = R) ∧ Below w.heap.size w wr) (fun c _ => ms.length - (intOf c).toNat)
  case atStart => exact ⟨0, Nat.zero_le _, rfl, HR.out, Below.refl _ _⟩
  case round =>
    obtain ⟨i, hi, rfl, HI, hb⟩ := hrel
    have hsz := hb.size
    by_cases hlt : i < ms.length
    · obtain ⟨⟨r1, r2, r3, r4, r5⟩, ad, rfl, h2, h3, h4, h5, S, cS, h6, h7⟩ := (hM.below hb).2 i hlt
      have hst := drop_all (fun m => oneL m l) ms i hlt
      rw [HI.out] at hst
      obtain ⟨m, hm⟩ : ∃ m, ms[i]'hlt = m := ⟨_, rfl⟩
      rw [hm] at h3 h4 h5 h6 h7 r1 r2 r3 r4 r5 hst
      clear hm
      have HL := Lib.hid (hB.below hb)
      have HS := Lib.hid h7
      clear h7
      have hbc := Below.refl wr.heap.size wr
      have c1 := fun W h h' => refOne_c m S cS B lenB capB l W r3 h hlB h' hz
      cases hq : oneL m l with
      | true =>
        rw [hq] at c1 hst
        have HE : Hid ((ms.drop (i + 1)).all (fun m => oneL m l) = R) := by show _ = _; rw [hst]; rfl
        clear hst hq
        go_wp2_with (go_at_call 68; refine (c1 _ (HS.out.below hbc) (HL.out.below hbc)).mono ?_; rintro e w1 ⟨rfl, hb1⟩; have hb2 := hb.trans ((hbc.mono hsz).trans (hb1.mono (by have := hbc.size; omega))); dsimp only)
        go_roundw
        case rel => exact ⟨i + 1, by omega, by go_num, HE.out, hb2⟩
        case measure => simp [intOf]; omega
      | false =>
        rw [hq] at c1 hst
        have e : R = false := by rw [hst]; rfl
        subst e
        clear hst hq
        go_wp2_with (go_at_call 68; refine (c1 _ (HS.out.below hbc) (HL.out.below hbc)).mono ?_; rintro e w1 ⟨rfl, hb1⟩; have hb2 := hb.trans ((hbc.mono hsz).trans (hb1.mono (by have := hbc.size; omega))); dsimp only)
        go_ret
        exact ⟨rfl, hb2⟩
    · obtain rfl : i = ms.length := by omega
      have e := HI.out
      rw [List.drop_length] at e
      have e2 : R = true := e.symm
      subst e2
      clear e
      go_wp2_with fail
      go_ret
      exact ⟨rfl, hb⟩
end Go.Proofs.YtdbifbgjbfnfmaaDoor
/-
  Layer 5 (match): matchers that may be, plain. No program is named.
-/
namespace Go.Proofs.YtdbifbgjbfnfmaaDoor
open Go.RowKit Go.Deep
/-- Is v behind what stood ahead, if there is any? -/
def lessO : Option (List UInt8) → List UInt8 → Bool
  | none, _ => true
  | some p, v => Op.bytesLess p v
def setFrom : Option (List UInt8) → List (List UInt8) → Bool
  | _, [] => true
  | o, v :: r => valueL v && (lessO o v && setFrom (some v) r)
def setL (s : List (List UInt8)) : Bool := (decide (1 ≤ s.length) && decide (s.length ≤ 8)) && setFrom none s
def prevO (s : List (List UInt8)) (i : Nat) : Option (List UInt8) := if h : 0 < i ∧ i - 1 < s.length then some (s[i - 1]'h.2) else none
theorem prevO_zero (s : List (List UInt8)) : prevO s 0 = none := by unfold prevO; rw [dif_neg (by omega)]
theorem prevO_succ {s : List (List UInt8)} {i : Nat} (h : i < s.length) : prevO s (i + 1) = some s[i] := by unfold prevO; rw [dif_pos ⟨by omega, by simpa using h⟩]; simp
theorem setFrom_at {o : Option (List UInt8)} {s : List (List UInt8)} {i : Nat} (h : i < s.length) : setFrom o (s.drop i) = (valueL s[i] && (lessO o s[i] && setFrom (some s[i]) (s.drop (i + 1)))) := by
  rw [List.drop_eq_getElem_cons h]; cases o <;> rfl
theorem setFrom_end (o : Option (List UInt8)) (s : List (List UInt8)) : setFrom o (s.drop s.length) = true := by rw [List.drop_length]; cases o <;> rfl
def chkL (m : Mat) : Bool := nameL m.2.1 && (if m.1 = 3 then (m.2.2.1 == []) && setL m.2.2.2 else if 0 ≤ m.1 ∧ m.1 ≤ 3 then valueL m.2.2.1 && decide (m.2.2.2.length = 0) else false)
def eM (b : Bool) : Int := if b then 0 else 50
theorem setFrom_mem {o : Option (List UInt8)} {s : List (List UInt8)} (h : setFrom o s = true) : ∀ x ∈ s, valueL x = true := by
  induction s generalizing o with
  | nil => intro x hx; simp at hx
  | cons y r ih =>
    have h' : (valueL y && (lessO o y && setFrom (some y) r)) = true := by cases o <;> exact h
    simp only [Bool.and_eq_true] at h'
    intro x hx
    rcases List.mem_cons.1 hx with rfl | hx
    · exact h'.1
    · exact ih h'.2.2 x hx
/-- Nothing of it is long. -/
def smallM (m : Mat) : Prop := m.2.1.length ≤ 16384 ∧ m.2.2.1.length ≤ 16384 ∧ m.2.2.2.length ≤ 16384 ∧ ∀ x ∈ m.2.2.2, x.length ≤ 16384
end Go.Proofs.YtdbifbgjbfnfmaaDoor
