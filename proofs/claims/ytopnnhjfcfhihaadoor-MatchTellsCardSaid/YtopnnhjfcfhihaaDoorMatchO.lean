/-
  Layer 5 (match): what One and All return; all that was in memory stays.
-/
import Derived.Test.YtopnnhjfcfhihaaDoorMatchK
import Derived.Test.YtopnnhjfcfhihaaDoorMatchMem
import Derived.Test.YtopnnhjfcfhihaaDoorHeld
namespace Go.Proofs.YtopnnhjfcfhihaaDoor
open Go.RowKit Go.Deep
attribute [local go_sem] str_size str_append str_toList str_get str_extract
set_option linter.unusedVariables false
set_option linter.unusedSimpArgs false
/-- What a Kind's struct is, and what its function finds. -/
theorem kind_is (m : Mat) (A : Option Addr) (cap : Nat) (l : List Lab) (hk : 0 ≤ m.1 ∧ m.1 ≤ 3) : ∃ mark nt many F, (F = 32 ∨ F = 33 ∨ F = 35) ∧ kindL m.1 = kindV mark nt many (.func (.func F) #[] #[]) ∧
    ∃ b, (∀ W, m.2.2.2.length ≤ 9223372036854775807 → StrsAt W A m.2.2.2.length m.2.2.2 → Calls Tryd.prog F #[.agg #[.int .i64 m.1, .string (str m.2.1), .string (str m.2.2.1), .slice A m.2.2.2.length cap], .string (str (getL l m.2.1))] W fun e w' => e = .returned (.bool b) ∧ Below W.heap.size W w') ∧ oneL m l = (b != nt) := by
  unfold oneL kindL
  by_cases h0 : m.1 = 0
  · simp only [h0, if_true]
    refine ⟨_, _, _, _, .inl rfl, rfl, (getL l m.2.1 == m.2.2.1), fun W _ _ => ?_, by simp⟩
    have := find1_c m A cap (getL l m.2.1) W
    rw [h0] at this
    exact this
  by_cases h1 : m.1 = 1
  · simp only [h1, if_true]
    refine ⟨_, _, _, _, .inl rfl, rfl, (getL l m.2.1 == m.2.2.1), fun W _ _ => ?_, by simp [bne]⟩
    have := find1_c m A cap (getL l m.2.1) W
    rw [h1] at this
    exact this
  by_cases h2 : m.1 = 2
  · simp only [h2, if_true]
    refine ⟨_, _, _, _, .inr (.inl rfl), rfl, Lib.hasPrefix (getL l m.2.1) m.2.2.1, fun W _ _ => ?_, by simp⟩
    have := find2_c m A cap (getL l m.2.1) W
    rw [h2] at this
    exact this
  have h3 : m.1 = 3 := by omega
  · simp only [h3, if_true]
    refine ⟨_, _, _, _, .inr (.inr rfl), rfl, m.2.2.2.any (fun y => y == getL l m.2.1), fun W h h' => ?_, by simp⟩
    have := find3_c m A cap (getL l m.2.1) W h h'
    rw [h3] at this
    exact this
theorem oneL_none (m : Mat) (l : List Lab) (hk : ¬ (0 ≤ m.1 ∧ m.1 ≤ 3)) : oneL m l = false := by
  unfold oneL
  rw [if_neg (by omega), if_neg (by omega), if_neg (by omega), if_neg (by omega)]
set_option maxHeartbeats 1000000 in
theorem one_c (m : Mat) (A : Option Addr) (cap : Nat) (B : Option Addr) (len capB : Nat) (l : List Lab) (w : World) (hm : m.2.2.2.length ≤ 9223372036854775807) (hS : StrsAt w A m.2.2.2.length m.2.2.2)
    (hl : len ≤ 140737488355328) (hA : LAt w B len l) (hz : ∀ x ∈ l, x.1.length ≤ 4096 ∧ x.2.length ≤ 4096) :
    Calls Tryd.prog 10 #[.agg #[.int .i64 m.1, .string (str m.2.1), .string (str m.2.2.1), .slice A m.2.2.2.length cap], .slice B len capB] w fun e w' => e = .returned (.bool (oneL m l)) ∧ Below w.heap.size w w' := by
  have ck := fun W => kindOf_c m.1 W
  by_cases hk : 0 ≤ m.1 ∧ m.1 ≤ 3
  · rw [decide_eq_true hk] at ck
    obtain ⟨mark, nt, many, F, hF3, e1, b, hF, e2⟩ := kind_is m A cap l hk
    rw [e1] at ck
    rw [e2]
    have cg := fun W h => get_c B len capB l m.2.1 W hl h hz
    obtain ⟨G, hG⟩ : ∃ G, getL l m.2.1 = G := ⟨_, rfl⟩
    rw [hG] at hF cg
    obtain ⟨k, n, v, s⟩ := m
    simp only at ck hF cg hm hS
    obtain ⟨ns, hns⟩ : ∃ ns, s.length = ns := ⟨_, rfl⟩
    rw [hns] at hF hm hS
    simp only [hns]
    have HF := Lib.hid hF
    have HG := Lib.hid cg
    unfold kindV at ck
    clear hk e1 e2 hF hG cg hns
    have d := blk_new w (.cells #[.int .i64 k, .string (str n), .string (str v), .slice A ns cap] 30)
    obtain ⟨wa, hwa⟩ : ∃ wa, wa = w.alloc (.cells #[.int .i64 k, .string (str n), .string (str v), .slice A ns cap] 30) := ⟨_, rfl⟩
    have hba : Below w.heap.size w wa := by rw [hwa]; exact (Below.refl _ _).alloc (Nat.le_refl _) _
    have hsa : w.heap.size < wa.heap.size := by rw [hwa]; simp
    rw [← hwa] at d
    rcases hF3 with rfl | rfl | rfl
    · have hst := fun (a : Addr) (w : World) => run_store Tryd.prog w a (.func (.func 32) #[] #[]) .plain rfl
      have hqm := fun W (hW : Below wa.heap.size wa W) => (hW.block w.heap.size hsa).trans d
      have HQ := Lib.hid hqm
      have HL := Lib.hid (And.intro (hA.below hba) (hS.below hba))
      clear d hqm
      go_enter Tryd.func10, Tryd.ntmps10
      go_wp2_with (go_at_call 19; refine (ck _).mono ?_; rintro e w1 ⟨rfl, hb1⟩; rw [← hwa] at hb1; dsimp only)
      have hs1 := hb1.size
      have dk := blk_new w1 (.cells #[.string (str mark), .bool nt, .bool many, .func (.func 32) #[] #[]] 43)
      have hb2 := hb1.alloc hs1 (.cells #[.string (str mark), .bool nt, .bool many, .func (.func 32) #[] #[]] 43)
      have hs2 : w1.heap.size < (w1.alloc (.cells #[.string (str mark), .bool nt, .bool many, .func (.func 32) #[] #[]] 43)).heap.size := by simp
      have HB2 := Lib.hid hb2
      have hss2 := hb2.size
      obtain ⟨w2, hw2⟩ : ∃ w2, w2 = w1.alloc (.cells #[.string (str mark), .bool nt, .bool many, .func (.func 32) #[] #[]] 43) := ⟨_, rfl⟩
      rw [← hw2] at dk hb2 hs2 HB2 hss2
      rw [← hw2]
      have hf : ∀ W, Below w2.heap.size w2 W → W.cell? ⟨w1.heap.size, 0, none⟩ = some (.string (str mark)) ∧ W.cell? ⟨w1.heap.size, 1, none⟩ = some (.bool nt) ∧ W.cell? ⟨w1.heap.size, 2, none⟩ = some (.bool many) ∧ W.cell? ⟨w1.heap.size, 3, none⟩ = some (.func (.func 32) #[] #[]) ∧
          W.cell? ⟨w.heap.size, 0, none⟩ = some (.int .i64 k) ∧ W.cell? ⟨w.heap.size, 1, none⟩ = some (.string (str n)) ∧ W.cell? ⟨w.heap.size, 2, none⟩ = some (.string (str v)) ∧ W.cell? ⟨w.heap.size, 3, none⟩ = some (.slice A ns cap) ∧ Below w2.heap.size w2 W := fun W hW => by
        have x1 := (hW.block w1.heap.size hs2).trans dk
        have x2 := HQ.out W (HB2.out.trans (hW.mono hss2))
        exact ⟨blk_cell x1 0, blk_cell x1 1, blk_cell x1 2, blk_cell x1 3, blk_cell x2 0, blk_cell x2 1, blk_cell x2 2, blk_cell x2 3, hW⟩
      have HC := Lib.hid hf
      clear hf dk hb2 hb1 ck hw2 hst hs1
      refine wp_region_held_drew (S := fun W => W.cell? ⟨w1.heap.size, 0, none⟩ = some (.string (str mark)) ∧ W.cell? ⟨w1.heap.size, 1, none⟩ = some (.bool nt) ∧ W.cell? ⟨w1.heap.size, 2, none⟩ = some (.bool many) ∧ W.cell? ⟨w1.heap.size, 3, none⟩ = some (.func (.func 32) #[] #[]) ∧
          W.cell? ⟨w.heap.size, 0, none⟩ = some (.int .i64 k) ∧ W.cell? ⟨w.heap.size, 1, none⟩ = some (.string (str n)) ∧ W.cell? ⟨w.heap.size, 2, none⟩ = some (.string (str v)) ∧ W.cell? ⟨w.heap.size, 3, none⟩ = some (.slice A ns cap) ∧ Below w2.heap.size w2 W) (by kernel_rfl) (HC.out _ (Below.drew (Below.refl _ _))) (fun hHeld => ?_)
      refine held_w (i := 0) (d := some 13) (v := ?_) rfl (by kernel_rfl) (by kernel_rfl) (by kernel_rfl) (fun _ _ _ h => h) (by rfl) ?_ hHeld ?_
      rotate_left
      · intro w' hSw; obtain ⟨q0, q1, q2, q3, q4, q5, q6, q7, q8⟩ := hSw; simp only [List.getElem?_toArray, List.getElem?_cons_zero, List.getElem?_cons_succ]; go_simp; try with_reducible rfl
      try simp only [Act.put, List.setIfInBounds_toArray, List.set_cons_zero, List.set_cons_succ]
      refine held_w (i := 1) (d := some 14) (v := ?_) rfl (by kernel_rfl) (by kernel_rfl) (by kernel_rfl) (fun _ _ _ h => h) (by rfl) ?_ hHeld ?_
      rotate_left
      · intro w' hSw; obtain ⟨q0, q1, q2, q3, q4, q5, q6, q7, q8⟩ := hSw; simp only [List.getElem?_toArray, List.getElem?_cons_zero, List.getElem?_cons_succ]; go_simp; try with_reducible rfl
      try simp only [Act.put, List.setIfInBounds_toArray, List.set_cons_zero, List.set_cons_succ]
      refine held_w (i := 2) (d := some 15) (v := ?_) rfl (by kernel_rfl) (by kernel_rfl) (by kernel_rfl) (fun _ _ _ h => h) (by rfl) ?_ hHeld ?_
      rotate_left
      · intro w' hSw; obtain ⟨q0, q1, q2, q3, q4, q5, q6, q7, q8⟩ := hSw; simp only [List.getElem?_toArray, List.getElem?_cons_zero, List.getElem?_cons_succ]; go_simp; try with_reducible rfl
      try simp only [Act.put, List.setIfInBounds_toArray, List.set_cons_zero, List.set_cons_succ]
      refine held_w (i := 3) (d := some 16) (v := ?_) rfl (by kernel_rfl) (by kernel_rfl) (by kernel_rfl) (fun _ _ _ h => h) (by rfl) ?_ hHeld ?_
      rotate_left
      · intro w' hSw; obtain ⟨q0, q1, q2, q3, q4, q5, q6, q7, q8⟩ := hSw; simp only [List.getElem?_toArray, List.getElem?_cons_zero, List.getElem?_cons_succ]; go_simp; try with_reducible rfl
      try simp only [Act.put, List.setIfInBounds_toArray, List.set_cons_zero, List.set_cons_succ]
      refine held_w (i := 4) (d := some 17) (v := ?_) rfl (by kernel_rfl) (by kernel_rfl) (by kernel_rfl) (fun _ _ _ h => h) (by rfl) ?_ hHeld ?_
      rotate_left
      · intro w' hSw; obtain ⟨q0, q1, q2, q3, q4, q5, q6, q7, q8⟩ := hSw; simp only [List.getElem?_toArray, List.getElem?_cons_zero, List.getElem?_cons_succ]; go_simp; try with_reducible rfl
      try simp only [Act.put, List.setIfInBounds_toArray, List.set_cons_zero, List.set_cons_succ]
      refine held_w (i := 5) (d := some 18) (v := ?_) rfl (by kernel_rfl) (by kernel_rfl) (by kernel_rfl) (fun _ _ _ h => h) (by rfl) ?_ hHeld ?_
      rotate_left
      · intro w' hSw; obtain ⟨q0, q1, q2, q3, q4, q5, q6, q7, q8⟩ := hSw; simp only [List.getElem?_toArray, List.getElem?_cons_zero, List.getElem?_cons_succ]; go_simp; try with_reducible rfl
      try simp only [Act.put, List.setIfInBounds_toArray, List.set_cons_zero, List.set_cons_succ]
      refine held_w (i := 6) (d := some 19) (v := ?_) rfl (by kernel_rfl) (by kernel_rfl) (by kernel_rfl) (fun _ _ _ h => h) (by rfl) ?_ hHeld ?_
      rotate_left
      · intro w' hSw; obtain ⟨q0, q1, q2, q3, q4, q5, q6, q7, q8⟩ := hSw; simp only [List.getElem?_toArray, List.getElem?_cons_zero, List.getElem?_cons_succ]; go_simp; try with_reducible rfl
      try simp only [Act.put, List.setIfInBounds_toArray, List.set_cons_zero, List.set_cons_succ]
      refine held_w (i := 7) (d := some 20) (v := ?_) rfl (by kernel_rfl) (by kernel_rfl) (by kernel_rfl) (fun _ _ _ h => h) (by rfl) ?_ hHeld ?_
      rotate_left
      · intro w' hSw; obtain ⟨q0, q1, q2, q3, q4, q5, q6, q7, q8⟩ := hSw; simp only [List.getElem?_toArray, List.getElem?_cons_zero, List.getElem?_cons_succ]; go_simp; try with_reducible rfl
      try simp only [Act.put, List.setIfInBounds_toArray, List.set_cons_zero, List.set_cons_succ]
      refine held_w (i := 10) (d := some 23) (v := ?_) rfl (by kernel_rfl) (by kernel_rfl) (by kernel_rfl) (fun _ _ _ h => h) (by rfl) ?_ hHeld ?_
      rotate_left
      · intro w' hSw; obtain ⟨q0, q1, q2, q3, q4, q5, q6, q7, q8⟩ := hSw; simp only [List.getElem?_toArray, List.getElem?_cons_zero, List.getElem?_cons_succ]; go_simp; try with_reducible rfl
      try simp only [Act.put, List.setIfInBounds_toArray, List.set_cons_zero, List.set_cons_succ]
      refine held_w (i := 11) (d := some 24) (v := ?_) rfl (by kernel_rfl) (by kernel_rfl) (by kernel_rfl) (fun _ _ _ h => h) (by rfl) ?_ hHeld ?_
      rotate_left
      · intro w' hSw; obtain ⟨q0, q1, q2, q3, q4, q5, q6, q7, q8⟩ := hSw; simp only [List.getElem?_toArray, List.getElem?_cons_zero, List.getElem?_cons_succ]; go_simp; try with_reducible rfl
      try simp only [Act.put, List.setIfInBounds_toArray, List.set_cons_zero, List.set_cons_succ]
      refine held_c (i := 8) (by kernel_rfl) (by rfl) (fun K hK => ?_)
      simp only [List.getElem?_toArray, List.getElem?_cons_zero, List.getElem?_cons_succ]
      go_simp
      refine (HG.out _ (HL.out.1.below (HB2.out.trans (hHeld.2.2.2.2.2.2.2.2.mono hss2)))).mono ?_
      rintro e w3 ⟨rfl, hb3⟩
      have hb23 := below2 hHeld.2.2.2.2.2.2.2.2 hb3 hHeld.2.2.2.2.2.2.2.2.size
      refine hK.out _ _ (HC.out _ hb23) (fun hHeld => ?_)
      clear hK K hb3
      try simp only [Act.put, List.setIfInBounds_toArray, List.set_cons_zero, List.set_cons_succ]
      refine held_c (i := 9) (by kernel_rfl) (by rfl) (fun K hK => ?_)
      simp only [List.getElem?_toArray, List.getElem?_cons_zero, List.getElem?_cons_succ]
      go_simp
      refine (HF.out _ hm (HL.out.2.below (HB2.out.trans (hHeld.2.2.2.2.2.2.2.2.mono hss2)))).mono ?_
      rintro e w4 ⟨rfl, hb4⟩
      have hb24 := below2 hHeld.2.2.2.2.2.2.2.2 hb4 hHeld.2.2.2.2.2.2.2.2.size
      refine hK.out _ _ (HC.out _ hb24) (fun hHeld => ?_)
      clear hK K hb4
      try simp only [Act.put, List.setIfInBounds_toArray, List.set_cons_zero, List.set_cons_succ]
      refine held_w (i := 12) (d := some 25) (v := ?_) rfl (by kernel_rfl) (by kernel_rfl) (by kernel_rfl) (fun _ _ _ h => h) (by rfl) ?_ hHeld ?_
      rotate_left
      · intro w' hSw; obtain ⟨q0, q1, q2, q3, q4, q5, q6, q7, q8⟩ := hSw; simp only [List.getElem?_toArray, List.getElem?_cons_zero, List.getElem?_cons_succ]; go_simp; try with_reducible rfl
      try simp only [Act.put, List.setIfInBounds_toArray, List.set_cons_zero, List.set_cons_succ]
      refine held_w (i := 13) (d := some 26) (v := ?_) rfl (by kernel_rfl) (by kernel_rfl) (by kernel_rfl) (fun _ _ _ h => h) (by rfl) ?_ hHeld ?_
      rotate_left
      · intro w' hSw; obtain ⟨q0, q1, q2, q3, q4, q5, q6, q7, q8⟩ := hSw; simp only [List.getElem?_toArray, List.getElem?_cons_zero, List.getElem?_cons_succ]; go_simp; try with_reducible rfl
      try simp only [Act.put, List.setIfInBounds_toArray, List.set_cons_zero, List.set_cons_succ]
      refine held_w (i := 14) (d := some 4) (v := ?_) rfl (by kernel_rfl) (by kernel_rfl) (by kernel_rfl) (fun _ _ _ h => h) (by rfl) ?_ hHeld ?_
      rotate_left
      · intro w' hSw; obtain ⟨q0, q1, q2, q3, q4, q5, q6, q7, q8⟩ := hSw; simp only [List.getElem?_toArray, List.getElem?_cons_zero, List.getElem?_cons_succ]; go_simp; try with_reducible rfl
      try simp only [Act.put, List.setIfInBounds_toArray, List.set_cons_zero, List.set_cons_succ]
      refine wpAnyH_done (by kernel_rfl) ?_ _
      go_wp2_with fail
      go_ret
      exact ⟨rfl, hba.trans ((HB2.out.mono (by omega)).trans (hb24.mono (by omega)))⟩
    · have hst := fun (a : Addr) (w : World) => run_store Tryd.prog w a (.func (.func 33) #[] #[]) .plain rfl
      have hqm := fun W (hW : Below wa.heap.size wa W) => (hW.block w.heap.size hsa).trans d
      have HQ := Lib.hid hqm
      have HL := Lib.hid (And.intro (hA.below hba) (hS.below hba))
      clear d hqm
      go_enter Tryd.func10, Tryd.ntmps10
      go_wp2_with (go_at_call 19; refine (ck _).mono ?_; rintro e w1 ⟨rfl, hb1⟩; rw [← hwa] at hb1; dsimp only)
      have hs1 := hb1.size
      have dk := blk_new w1 (.cells #[.string (str mark), .bool nt, .bool many, .func (.func 33) #[] #[]] 43)
      have hb2 := hb1.alloc hs1 (.cells #[.string (str mark), .bool nt, .bool many, .func (.func 33) #[] #[]] 43)
      have hs2 : w1.heap.size < (w1.alloc (.cells #[.string (str mark), .bool nt, .bool many, .func (.func 33) #[] #[]] 43)).heap.size := by simp
      have HB2 := Lib.hid hb2
      have hss2 := hb2.size
      obtain ⟨w2, hw2⟩ : ∃ w2, w2 = w1.alloc (.cells #[.string (str mark), .bool nt, .bool many, .func (.func 33) #[] #[]] 43) := ⟨_, rfl⟩
      rw [← hw2] at dk hb2 hs2 HB2 hss2
      rw [← hw2]
      have hf : ∀ W, Below w2.heap.size w2 W → W.cell? ⟨w1.heap.size, 0, none⟩ = some (.string (str mark)) ∧ W.cell? ⟨w1.heap.size, 1, none⟩ = some (.bool nt) ∧ W.cell? ⟨w1.heap.size, 2, none⟩ = some (.bool many) ∧ W.cell? ⟨w1.heap.size, 3, none⟩ = some (.func (.func 33) #[] #[]) ∧
          W.cell? ⟨w.heap.size, 0, none⟩ = some (.int .i64 k) ∧ W.cell? ⟨w.heap.size, 1, none⟩ = some (.string (str n)) ∧ W.cell? ⟨w.heap.size, 2, none⟩ = some (.string (str v)) ∧ W.cell? ⟨w.heap.size, 3, none⟩ = some (.slice A ns cap) ∧ Below w2.heap.size w2 W := fun W hW => by
        have x1 := (hW.block w1.heap.size hs2).trans dk
        have x2 := HQ.out W (HB2.out.trans (hW.mono hss2))
        exact ⟨blk_cell x1 0, blk_cell x1 1, blk_cell x1 2, blk_cell x1 3, blk_cell x2 0, blk_cell x2 1, blk_cell x2 2, blk_cell x2 3, hW⟩
      have HC := Lib.hid hf
      clear hf dk hb2 hb1 ck hw2 hst hs1
      refine wp_region_held_drew (S := fun W => W.cell? ⟨w1.heap.size, 0, none⟩ = some (.string (str mark)) ∧ W.cell? ⟨w1.heap.size, 1, none⟩ = some (.bool nt) ∧ W.cell? ⟨w1.heap.size, 2, none⟩ = some (.bool many) ∧ W.cell? ⟨w1.heap.size, 3, none⟩ = some (.func (.func 33) #[] #[]) ∧
          W.cell? ⟨w.heap.size, 0, none⟩ = some (.int .i64 k) ∧ W.cell? ⟨w.heap.size, 1, none⟩ = some (.string (str n)) ∧ W.cell? ⟨w.heap.size, 2, none⟩ = some (.string (str v)) ∧ W.cell? ⟨w.heap.size, 3, none⟩ = some (.slice A ns cap) ∧ Below w2.heap.size w2 W) (by kernel_rfl) (HC.out _ (Below.drew (Below.refl _ _))) (fun hHeld => ?_)
      refine held_w (i := 0) (d := some 13) (v := ?_) rfl (by kernel_rfl) (by kernel_rfl) (by kernel_rfl) (fun _ _ _ h => h) (by rfl) ?_ hHeld ?_
      rotate_left
      · intro w' hSw; obtain ⟨q0, q1, q2, q3, q4, q5, q6, q7, q8⟩ := hSw; simp only [List.getElem?_toArray, List.getElem?_cons_zero, List.getElem?_cons_succ]; go_simp; try with_reducible rfl
      try simp only [Act.put, List.setIfInBounds_toArray, List.set_cons_zero, List.set_cons_succ]
      refine held_w (i := 1) (d := some 14) (v := ?_) rfl (by kernel_rfl) (by kernel_rfl) (by kernel_rfl) (fun _ _ _ h => h) (by rfl) ?_ hHeld ?_
      rotate_left
      · intro w' hSw; obtain ⟨q0, q1, q2, q3, q4, q5, q6, q7, q8⟩ := hSw; simp only [List.getElem?_toArray, List.getElem?_cons_zero, List.getElem?_cons_succ]; go_simp; try with_reducible rfl
      try simp only [Act.put, List.setIfInBounds_toArray, List.set_cons_zero, List.set_cons_succ]
      refine held_w (i := 2) (d := some 15) (v := ?_) rfl (by kernel_rfl) (by kernel_rfl) (by kernel_rfl) (fun _ _ _ h => h) (by rfl) ?_ hHeld ?_
      rotate_left
      · intro w' hSw; obtain ⟨q0, q1, q2, q3, q4, q5, q6, q7, q8⟩ := hSw; simp only [List.getElem?_toArray, List.getElem?_cons_zero, List.getElem?_cons_succ]; go_simp; try with_reducible rfl
      try simp only [Act.put, List.setIfInBounds_toArray, List.set_cons_zero, List.set_cons_succ]
      refine held_w (i := 3) (d := some 16) (v := ?_) rfl (by kernel_rfl) (by kernel_rfl) (by kernel_rfl) (fun _ _ _ h => h) (by rfl) ?_ hHeld ?_
      rotate_left
      · intro w' hSw; obtain ⟨q0, q1, q2, q3, q4, q5, q6, q7, q8⟩ := hSw; simp only [List.getElem?_toArray, List.getElem?_cons_zero, List.getElem?_cons_succ]; go_simp; try with_reducible rfl
      try simp only [Act.put, List.setIfInBounds_toArray, List.set_cons_zero, List.set_cons_succ]
      refine held_w (i := 4) (d := some 17) (v := ?_) rfl (by kernel_rfl) (by kernel_rfl) (by kernel_rfl) (fun _ _ _ h => h) (by rfl) ?_ hHeld ?_
      rotate_left
      · intro w' hSw; obtain ⟨q0, q1, q2, q3, q4, q5, q6, q7, q8⟩ := hSw; simp only [List.getElem?_toArray, List.getElem?_cons_zero, List.getElem?_cons_succ]; go_simp; try with_reducible rfl
      try simp only [Act.put, List.setIfInBounds_toArray, List.set_cons_zero, List.set_cons_succ]
      refine held_w (i := 5) (d := some 18) (v := ?_) rfl (by kernel_rfl) (by kernel_rfl) (by kernel_rfl) (fun _ _ _ h => h) (by rfl) ?_ hHeld ?_
      rotate_left
      · intro w' hSw; obtain ⟨q0, q1, q2, q3, q4, q5, q6, q7, q8⟩ := hSw; simp only [List.getElem?_toArray, List.getElem?_cons_zero, List.getElem?_cons_succ]; go_simp; try with_reducible rfl
      try simp only [Act.put, List.setIfInBounds_toArray, List.set_cons_zero, List.set_cons_succ]
      refine held_w (i := 6) (d := some 19) (v := ?_) rfl (by kernel_rfl) (by kernel_rfl) (by kernel_rfl) (fun _ _ _ h => h) (by rfl) ?_ hHeld ?_
      rotate_left
      · intro w' hSw; obtain ⟨q0, q1, q2, q3, q4, q5, q6, q7, q8⟩ := hSw; simp only [List.getElem?_toArray, List.getElem?_cons_zero, List.getElem?_cons_succ]; go_simp; try with_reducible rfl
      try simp only [Act.put, List.setIfInBounds_toArray, List.set_cons_zero, List.set_cons_succ]
      refine held_w (i := 7) (d := some 20) (v := ?_) rfl (by kernel_rfl) (by kernel_rfl) (by kernel_rfl) (fun _ _ _ h => h) (by rfl) ?_ hHeld ?_
      rotate_left
      · intro w' hSw; obtain ⟨q0, q1, q2, q3, q4, q5, q6, q7, q8⟩ := hSw; simp only [List.getElem?_toArray, List.getElem?_cons_zero, List.getElem?_cons_succ]; go_simp; try with_reducible rfl
      try simp only [Act.put, List.setIfInBounds_toArray, List.set_cons_zero, List.set_cons_succ]
      refine held_w (i := 10) (d := some 23) (v := ?_) rfl (by kernel_rfl) (by kernel_rfl) (by kernel_rfl) (fun _ _ _ h => h) (by rfl) ?_ hHeld ?_
      rotate_left
      · intro w' hSw; obtain ⟨q0, q1, q2, q3, q4, q5, q6, q7, q8⟩ := hSw; simp only [List.getElem?_toArray, List.getElem?_cons_zero, List.getElem?_cons_succ]; go_simp; try with_reducible rfl
      try simp only [Act.put, List.setIfInBounds_toArray, List.set_cons_zero, List.set_cons_succ]
      refine held_w (i := 11) (d := some 24) (v := ?_) rfl (by kernel_rfl) (by kernel_rfl) (by kernel_rfl) (fun _ _ _ h => h) (by rfl) ?_ hHeld ?_
      rotate_left
      · intro w' hSw; obtain ⟨q0, q1, q2, q3, q4, q5, q6, q7, q8⟩ := hSw; simp only [List.getElem?_toArray, List.getElem?_cons_zero, List.getElem?_cons_succ]; go_simp; try with_reducible rfl
      try simp only [Act.put, List.setIfInBounds_toArray, List.set_cons_zero, List.set_cons_succ]
      refine held_c (i := 8) (by kernel_rfl) (by rfl) (fun K hK => ?_)
      simp only [List.getElem?_toArray, List.getElem?_cons_zero, List.getElem?_cons_succ]
      go_simp
      refine (HG.out _ (HL.out.1.below (HB2.out.trans (hHeld.2.2.2.2.2.2.2.2.mono hss2)))).mono ?_
      rintro e w3 ⟨rfl, hb3⟩
      have hb23 := below2 hHeld.2.2.2.2.2.2.2.2 hb3 hHeld.2.2.2.2.2.2.2.2.size
      refine hK.out _ _ (HC.out _ hb23) (fun hHeld => ?_)
      clear hK K hb3
      try simp only [Act.put, List.setIfInBounds_toArray, List.set_cons_zero, List.set_cons_succ]
      refine held_c (i := 9) (by kernel_rfl) (by rfl) (fun K hK => ?_)
      simp only [List.getElem?_toArray, List.getElem?_cons_zero, List.getElem?_cons_succ]
      go_simp
      refine (HF.out _ hm (HL.out.2.below (HB2.out.trans (hHeld.2.2.2.2.2.2.2.2.mono hss2)))).mono ?_
      rintro e w4 ⟨rfl, hb4⟩
      have hb24 := below2 hHeld.2.2.2.2.2.2.2.2 hb4 hHeld.2.2.2.2.2.2.2.2.size
      refine hK.out _ _ (HC.out _ hb24) (fun hHeld => ?_)
      clear hK K hb4
      try simp only [Act.put, List.setIfInBounds_toArray, List.set_cons_zero, List.set_cons_succ]
      refine held_w (i := 12) (d := some 25) (v := ?_) rfl (by kernel_rfl) (by kernel_rfl) (by kernel_rfl) (fun _ _ _ h => h) (by rfl) ?_ hHeld ?_
      rotate_left
      · intro w' hSw; obtain ⟨q0, q1, q2, q3, q4, q5, q6, q7, q8⟩ := hSw; simp only [List.getElem?_toArray, List.getElem?_cons_zero, List.getElem?_cons_succ]; go_simp; try with_reducible rfl
      try simp only [Act.put, List.setIfInBounds_toArray, List.set_cons_zero, List.set_cons_succ]
      refine held_w (i := 13) (d := some 26) (v := ?_) rfl (by kernel_rfl) (by kernel_rfl) (by kernel_rfl) (fun _ _ _ h => h) (by rfl) ?_ hHeld ?_
      rotate_left
      · intro w' hSw; obtain ⟨q0, q1, q2, q3, q4, q5, q6, q7, q8⟩ := hSw; simp only [List.getElem?_toArray, List.getElem?_cons_zero, List.getElem?_cons_succ]; go_simp; try with_reducible rfl
      try simp only [Act.put, List.setIfInBounds_toArray, List.set_cons_zero, List.set_cons_succ]
      refine held_w (i := 14) (d := some 4) (v := ?_) rfl (by kernel_rfl) (by kernel_rfl) (by kernel_rfl) (fun _ _ _ h => h) (by rfl) ?_ hHeld ?_
      rotate_left
      · intro w' hSw; obtain ⟨q0, q1, q2, q3, q4, q5, q6, q7, q8⟩ := hSw; simp only [List.getElem?_toArray, List.getElem?_cons_zero, List.getElem?_cons_succ]; go_simp; try with_reducible rfl
      try simp only [Act.put, List.setIfInBounds_toArray, List.set_cons_zero, List.set_cons_succ]
      refine wpAnyH_done (by kernel_rfl) ?_ _
      go_wp2_with fail
      go_ret
      exact ⟨rfl, hba.trans ((HB2.out.mono (by omega)).trans (hb24.mono (by omega)))⟩
    · have hst := fun (a : Addr) (w : World) => run_store Tryd.prog w a (.func (.func 35) #[] #[]) .plain rfl
      have hqm := fun W (hW : Below wa.heap.size wa W) => (hW.block w.heap.size hsa).trans d
      have HQ := Lib.hid hqm
      have HL := Lib.hid (And.intro (hA.below hba) (hS.below hba))
      clear d hqm
      go_enter Tryd.func10, Tryd.ntmps10
      go_wp2_with (go_at_call 19; refine (ck _).mono ?_; rintro e w1 ⟨rfl, hb1⟩; rw [← hwa] at hb1; dsimp only)
      have hs1 := hb1.size
      have dk := blk_new w1 (.cells #[.string (str mark), .bool nt, .bool many, .func (.func 35) #[] #[]] 43)
      have hb2 := hb1.alloc hs1 (.cells #[.string (str mark), .bool nt, .bool many, .func (.func 35) #[] #[]] 43)
      have hs2 : w1.heap.size < (w1.alloc (.cells #[.string (str mark), .bool nt, .bool many, .func (.func 35) #[] #[]] 43)).heap.size := by simp
      have HB2 := Lib.hid hb2
      have hss2 := hb2.size
      obtain ⟨w2, hw2⟩ : ∃ w2, w2 = w1.alloc (.cells #[.string (str mark), .bool nt, .bool many, .func (.func 35) #[] #[]] 43) := ⟨_, rfl⟩
      rw [← hw2] at dk hb2 hs2 HB2 hss2
      rw [← hw2]
      have hf : ∀ W, Below w2.heap.size w2 W → W.cell? ⟨w1.heap.size, 0, none⟩ = some (.string (str mark)) ∧ W.cell? ⟨w1.heap.size, 1, none⟩ = some (.bool nt) ∧ W.cell? ⟨w1.heap.size, 2, none⟩ = some (.bool many) ∧ W.cell? ⟨w1.heap.size, 3, none⟩ = some (.func (.func 35) #[] #[]) ∧
          W.cell? ⟨w.heap.size, 0, none⟩ = some (.int .i64 k) ∧ W.cell? ⟨w.heap.size, 1, none⟩ = some (.string (str n)) ∧ W.cell? ⟨w.heap.size, 2, none⟩ = some (.string (str v)) ∧ W.cell? ⟨w.heap.size, 3, none⟩ = some (.slice A ns cap) ∧ Below w2.heap.size w2 W := fun W hW => by
        have x1 := (hW.block w1.heap.size hs2).trans dk
        have x2 := HQ.out W (HB2.out.trans (hW.mono hss2))
        exact ⟨blk_cell x1 0, blk_cell x1 1, blk_cell x1 2, blk_cell x1 3, blk_cell x2 0, blk_cell x2 1, blk_cell x2 2, blk_cell x2 3, hW⟩
      have HC := Lib.hid hf
      clear hf dk hb2 hb1 ck hw2 hst hs1
      refine wp_region_held_drew (S := fun W => W.cell? ⟨w1.heap.size, 0, none⟩ = some (.string (str mark)) ∧ W.cell? ⟨w1.heap.size, 1, none⟩ = some (.bool nt) ∧ W.cell? ⟨w1.heap.size, 2, none⟩ = some (.bool many) ∧ W.cell? ⟨w1.heap.size, 3, none⟩ = some (.func (.func 35) #[] #[]) ∧
          W.cell? ⟨w.heap.size, 0, none⟩ = some (.int .i64 k) ∧ W.cell? ⟨w.heap.size, 1, none⟩ = some (.string (str n)) ∧ W.cell? ⟨w.heap.size, 2, none⟩ = some (.string (str v)) ∧ W.cell? ⟨w.heap.size, 3, none⟩ = some (.slice A ns cap) ∧ Below w2.heap.size w2 W) (by kernel_rfl) (HC.out _ (Below.drew (Below.refl _ _))) (fun hHeld => ?_)
      refine held_w (i := 0) (d := some 13) (v := ?_) rfl (by kernel_rfl) (by kernel_rfl) (by kernel_rfl) (fun _ _ _ h => h) (by rfl) ?_ hHeld ?_
      rotate_left
      · intro w' hSw; obtain ⟨q0, q1, q2, q3, q4, q5, q6, q7, q8⟩ := hSw; simp only [List.getElem?_toArray, List.getElem?_cons_zero, List.getElem?_cons_succ]; go_simp; try with_reducible rfl
      try simp only [Act.put, List.setIfInBounds_toArray, List.set_cons_zero, List.set_cons_succ]
      refine held_w (i := 1) (d := some 14) (v := ?_) rfl (by kernel_rfl) (by kernel_rfl) (by kernel_rfl) (fun _ _ _ h => h) (by rfl) ?_ hHeld ?_
      rotate_left
      · intro w' hSw; obtain ⟨q0, q1, q2, q3, q4, q5, q6, q7, q8⟩ := hSw; simp only [List.getElem?_toArray, List.getElem?_cons_zero, List.getElem?_cons_succ]; go_simp; try with_reducible rfl
      try simp only [Act.put, List.setIfInBounds_toArray, List.set_cons_zero, List.set_cons_succ]
      refine held_w (i := 2) (d := some 15) (v := ?_) rfl (by kernel_rfl) (by kernel_rfl) (by kernel_rfl) (fun _ _ _ h => h) (by rfl) ?_ hHeld ?_
      rotate_left
      · intro w' hSw; obtain ⟨q0, q1, q2, q3, q4, q5, q6, q7, q8⟩ := hSw; simp only [List.getElem?_toArray, List.getElem?_cons_zero, List.getElem?_cons_succ]; go_simp; try with_reducible rfl
      try simp only [Act.put, List.setIfInBounds_toArray, List.set_cons_zero, List.set_cons_succ]
      refine held_w (i := 3) (d := some 16) (v := ?_) rfl (by kernel_rfl) (by kernel_rfl) (by kernel_rfl) (fun _ _ _ h => h) (by rfl) ?_ hHeld ?_
      rotate_left
      · intro w' hSw; obtain ⟨q0, q1, q2, q3, q4, q5, q6, q7, q8⟩ := hSw; simp only [List.getElem?_toArray, List.getElem?_cons_zero, List.getElem?_cons_succ]; go_simp; try with_reducible rfl
      try simp only [Act.put, List.setIfInBounds_toArray, List.set_cons_zero, List.set_cons_succ]
      refine held_w (i := 4) (d := some 17) (v := ?_) rfl (by kernel_rfl) (by kernel_rfl) (by kernel_rfl) (fun _ _ _ h => h) (by rfl) ?_ hHeld ?_
      rotate_left
      · intro w' hSw; obtain ⟨q0, q1, q2, q3, q4, q5, q6, q7, q8⟩ := hSw; simp only [List.getElem?_toArray, List.getElem?_cons_zero, List.getElem?_cons_succ]; go_simp; try with_reducible rfl
      try simp only [Act.put, List.setIfInBounds_toArray, List.set_cons_zero, List.set_cons_succ]
      refine held_w (i := 5) (d := some 18) (v := ?_) rfl (by kernel_rfl) (by kernel_rfl) (by kernel_rfl) (fun _ _ _ h => h) (by rfl) ?_ hHeld ?_
      rotate_left
      · intro w' hSw; obtain ⟨q0, q1, q2, q3, q4, q5, q6, q7, q8⟩ := hSw; simp only [List.getElem?_toArray, List.getElem?_cons_zero, List.getElem?_cons_succ]; go_simp; try with_reducible rfl
      try simp only [Act.put, List.setIfInBounds_toArray, List.set_cons_zero, List.set_cons_succ]
      refine held_w (i := 6) (d := some 19) (v := ?_) rfl (by kernel_rfl) (by kernel_rfl) (by kernel_rfl) (fun _ _ _ h => h) (by rfl) ?_ hHeld ?_
      rotate_left
      · intro w' hSw; obtain ⟨q0, q1, q2, q3, q4, q5, q6, q7, q8⟩ := hSw; simp only [List.getElem?_toArray, List.getElem?_cons_zero, List.getElem?_cons_succ]; go_simp; try with_reducible rfl
      try simp only [Act.put, List.setIfInBounds_toArray, List.set_cons_zero, List.set_cons_succ]
      refine held_w (i := 7) (d := some 20) (v := ?_) rfl (by kernel_rfl) (by kernel_rfl) (by kernel_rfl) (fun _ _ _ h => h) (by rfl) ?_ hHeld ?_
      rotate_left
      · intro w' hSw; obtain ⟨q0, q1, q2, q3, q4, q5, q6, q7, q8⟩ := hSw; simp only [List.getElem?_toArray, List.getElem?_cons_zero, List.getElem?_cons_succ]; go_simp; try with_reducible rfl
      try simp only [Act.put, List.setIfInBounds_toArray, List.set_cons_zero, List.set_cons_succ]
      refine held_w (i := 10) (d := some 23) (v := ?_) rfl (by kernel_rfl) (by kernel_rfl) (by kernel_rfl) (fun _ _ _ h => h) (by rfl) ?_ hHeld ?_
      rotate_left
      · intro w' hSw; obtain ⟨q0, q1, q2, q3, q4, q5, q6, q7, q8⟩ := hSw; simp only [List.getElem?_toArray, List.getElem?_cons_zero, List.getElem?_cons_succ]; go_simp; try with_reducible rfl
      try simp only [Act.put, List.setIfInBounds_toArray, List.set_cons_zero, List.set_cons_succ]
      refine held_w (i := 11) (d := some 24) (v := ?_) rfl (by kernel_rfl) (by kernel_rfl) (by kernel_rfl) (fun _ _ _ h => h) (by rfl) ?_ hHeld ?_
      rotate_left
      · intro w' hSw; obtain ⟨q0, q1, q2, q3, q4, q5, q6, q7, q8⟩ := hSw; simp only [List.getElem?_toArray, List.getElem?_cons_zero, List.getElem?_cons_succ]; go_simp; try with_reducible rfl
      try simp only [Act.put, List.setIfInBounds_toArray, List.set_cons_zero, List.set_cons_succ]
      refine held_c (i := 8) (by kernel_rfl) (by rfl) (fun K hK => ?_)
      simp only [List.getElem?_toArray, List.getElem?_cons_zero, List.getElem?_cons_succ]
      go_simp
      refine (HG.out _ (HL.out.1.below (HB2.out.trans (hHeld.2.2.2.2.2.2.2.2.mono hss2)))).mono ?_
      rintro e w3 ⟨rfl, hb3⟩
      have hb23 := below2 hHeld.2.2.2.2.2.2.2.2 hb3 hHeld.2.2.2.2.2.2.2.2.size
      refine hK.out _ _ (HC.out _ hb23) (fun hHeld => ?_)
      clear hK K hb3
      try simp only [Act.put, List.setIfInBounds_toArray, List.set_cons_zero, List.set_cons_succ]
      refine held_c (i := 9) (by kernel_rfl) (by rfl) (fun K hK => ?_)
      simp only [List.getElem?_toArray, List.getElem?_cons_zero, List.getElem?_cons_succ]
      go_simp
      refine (HF.out _ hm (HL.out.2.below (HB2.out.trans (hHeld.2.2.2.2.2.2.2.2.mono hss2)))).mono ?_
      rintro e w4 ⟨rfl, hb4⟩
      have hb24 := below2 hHeld.2.2.2.2.2.2.2.2 hb4 hHeld.2.2.2.2.2.2.2.2.size
      refine hK.out _ _ (HC.out _ hb24) (fun hHeld => ?_)
      clear hK K hb4
      try simp only [Act.put, List.setIfInBounds_toArray, List.set_cons_zero, List.set_cons_succ]
      refine held_w (i := 12) (d := some 25) (v := ?_) rfl (by kernel_rfl) (by kernel_rfl) (by kernel_rfl) (fun _ _ _ h => h) (by rfl) ?_ hHeld ?_
      rotate_left
      · intro w' hSw; obtain ⟨q0, q1, q2, q3, q4, q5, q6, q7, q8⟩ := hSw; simp only [List.getElem?_toArray, List.getElem?_cons_zero, List.getElem?_cons_succ]; go_simp; try with_reducible rfl
      try simp only [Act.put, List.setIfInBounds_toArray, List.set_cons_zero, List.set_cons_succ]
      refine held_w (i := 13) (d := some 26) (v := ?_) rfl (by kernel_rfl) (by kernel_rfl) (by kernel_rfl) (fun _ _ _ h => h) (by rfl) ?_ hHeld ?_
      rotate_left
      · intro w' hSw; obtain ⟨q0, q1, q2, q3, q4, q5, q6, q7, q8⟩ := hSw; simp only [List.getElem?_toArray, List.getElem?_cons_zero, List.getElem?_cons_succ]; go_simp; try with_reducible rfl
      try simp only [Act.put, List.setIfInBounds_toArray, List.set_cons_zero, List.set_cons_succ]
      refine held_w (i := 14) (d := some 4) (v := ?_) rfl (by kernel_rfl) (by kernel_rfl) (by kernel_rfl) (fun _ _ _ h => h) (by rfl) ?_ hHeld ?_
      rotate_left
      · intro w' hSw; obtain ⟨q0, q1, q2, q3, q4, q5, q6, q7, q8⟩ := hSw; simp only [List.getElem?_toArray, List.getElem?_cons_zero, List.getElem?_cons_succ]; go_simp; try with_reducible rfl
      try simp only [Act.put, List.setIfInBounds_toArray, List.set_cons_zero, List.set_cons_succ]
      refine wpAnyH_done (by kernel_rfl) ?_ _
      go_wp2_with fail
      go_ret
      exact ⟨rfl, hba.trans ((HB2.out.mono (by omega)).trans (hb24.mono (by omega)))⟩
  · rw [decide_eq_false hk] at ck
    rw [oneL_none m l hk]
    have e : kindL m.1 = kindV [] false false .nilFunc := by
      unfold kindL
      rw [if_neg (by omega), if_neg (by omega), if_neg (by omega), if_neg (by omega)]
    rw [e] at ck
    unfold kindV at ck
    have hst := fun (a : Addr) (w : World) => run_store Tryd.prog w a .nilFunc .plain rfl
    clear hk e
    go_enter Tryd.func10, Tryd.ntmps10
    go_wp2_with (go_at_call 19; refine (ck _).mono ?_; rintro e w1 ⟨rfl, hb1⟩; have hsz1 := hb1.size; dsimp only)
    go_quiet (fail)
    go_wp2_with fail
    go_ret
    exact ⟨rfl, below_drewN ((((Below.refl _ _).alloc (Nat.le_refl _) _).trans (hb1.mono (by simp))).alloc (by simp at hsz1; omega) _) _⟩
end Go.Proofs.YtopnnhjfcfhihaaDoor
