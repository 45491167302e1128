/-
  Texts of the same seat, one behind the other (merged; each says at its head what it is).
-/
import Derived.Test.YtdbifbgjbfnfmaaGreatDoorM06
import Derived.Test.YtdbifbgjbfnfmaaGreatDoorM01
import Derived.Test.YtdbifbgjbfnfmaaGreatDoorM04
import Derived.Test.YtdbifbgjbfnfmaaGreatDoorProg
import Derived.Deep.Fields
import Derived.Deep.Slices
import Derived.Deep.RegionHeld3
import Derived.Deep.OwnRows
import Derived.Outline
import Derived.BigQuiet
import Derived.Deep.QuietTactic
import Derived.Deep.RegionWith
import Derived.OpenShut
import Derived.Deep.Onto
import Derived.Lib.Hide
import Derived.IntWalk
import Derived.BigRegion
import Derived.Deep.AppendLies
import Derived.RegionTactic
/-
  Layer 5 (match): what One and All return; all that was in memory stays.
-/
namespace Go.Proofs.YtdbifbgjbfnfmaaGreatDoor
open Go.RowKit Go.Deep
attribute [local go_sem] str_size str_append str_toList str_get str_extract
set_option linter.unusedVariables false
set_option linter.unusedSimpArgs false
/-- What a Kind's struct is, and what its function finds. -/
theorem kind_is (m : Mat) (A : Option Addr) (cap : Nat) (l : List Lab) (hk : 0 ≤ m.1 ∧ m.1 ≤ 3) : ∃ mark nt many F, (F = 52 ∨ F = 53 ∨ F = 55) ∧ kindL m.1 = kindV mark nt many (.func (.func F) #[] #[]) ∧
    ∃ b, (∀ W, m.2.2.2.length ≤ 9223372036854775807 → StrsAt W A m.2.2.2.length m.2.2.2 → Calls Tryz.prog F #[.agg #[.int .i64 m.1, .string (str m.2.1), .string (str m.2.2.1), .slice A m.2.2.2.length cap], .string (str (getL l m.2.1))] W fun e w' => e = .returned (.bool b) ∧ Below W.heap.size W w') ∧ oneL m l = (b != nt) := by
  unfold oneL kindL
  by_cases h0 : m.1 = 0
  · simp only [h0, if_true]
    refine ⟨_, _, _, _, .inl rfl, rfl, (getL l m.2.1 == m.2.2.1), fun W _ _ => ?_, by simp⟩
    have := find1_c m A cap (getL l m.2.1) W
    rw [h0] at this
    exact this
  by_cases h1 : m.1 = 1
  · simp only [h1, if_true]
    refine ⟨_, _, _, _, .inl rfl, rfl, (getL l m.2.1 == m.2.2.1), fun W _ _ => ?_, by simp [bne]⟩
    have := find1_c m A cap (getL l m.2.1) W
    rw [h1] at this
    exact this
  by_cases h2 : m.1 = 2
  · simp only [h2, if_true]
    refine ⟨_, _, _, _, .inr (.inl rfl), rfl, Lib.hasPrefix (getL l m.2.1) m.2.2.1, fun W _ _ => ?_, by simp⟩
    have := find2_c m A cap (getL l m.2.1) W
    rw [h2] at this
    exact this
  have h3 : m.1 = 3 := by omega
  · simp only [h3, if_true]
    refine ⟨_, _, _, _, .inr (.inr rfl), rfl, m.2.2.2.any (fun y => y == getL l m.2.1), fun W h h' => ?_, by simp⟩
    have := find3_c m A cap (getL l m.2.1) W h h'
    rw [h3] at this
    exact this
theorem oneL_none (m : Mat) (l : List Lab) (hk : ¬ (0 ≤ m.1 ∧ m.1 ≤ 3)) : oneL m l = false := by
  unfold oneL
  rw [if_neg (by omega), if_neg (by omega), if_neg (by omega), if_neg (by omega)]
set_option maxHeartbeats 1000000 in
theorem one_c (m : Mat) (A : Option Addr) (cap : Nat) (B : Option Addr) (len capB : Nat) (l : List Lab) (w : World) (hm : m.2.2.2.length ≤ 9223372036854775807) (hS : StrsAt w A m.2.2.2.length m.2.2.2)
    (hl : len ≤ 140737488355328) (hA : LAt w B len l) (hz : ∀ x ∈ l, x.1.length ≤ 4096 ∧ x.2.length ≤ 4096) :
    Calls Tryz.prog 38 #[.agg #[.int .i64 m.1, .string (str m.2.1), .string (str m.2.2.1), .slice A m.2.2.2.length cap], .slice B len capB] w fun e w' => e = .returned (.bool (oneL m l)) ∧ Below w.heap.size w w' := by
  have ck := fun W => kindOf_c m.1 W
  by_cases hk : 0 ≤ m.1 ∧ m.1 ≤ 3
  · rw [decide_eq_true hk] at ck
    obtain ⟨mark, nt, many, F, hF3, e1, b, hF, e2⟩ := kind_is m A cap l hk
    rw [e1] at ck
    rw [e2]
    have cg := fun W h => get_c B len capB l m.2.1 W hl h hz
    obtain ⟨G, hG⟩ : ∃ G, getL l m.2.1 = G := ⟨_, rfl⟩
    rw [hG] at hF cg
    obtain ⟨k, n, v, s⟩ := m
    simp only at ck hF cg hm hS
    obtain ⟨ns, hns⟩ : ∃ ns, s.length = ns := ⟨_, rfl⟩
    rw [hns] at hF hm hS
    simp only [hns]
    have HF := Lib.hid hF
    have HG := Lib.hid cg
    unfold kindV at ck
    clear hk e1 e2 hF hG cg hns
    have d := blk_new w (.cells #[.int .i64 k, .string (str n), .string (str v), .slice A ns cap] 57)
    obtain ⟨wa, hwa⟩ : ∃ wa, wa = w.alloc (.cells #[.int .i64 k, .string (str n), .string (str v), .slice A ns cap] 57) := ⟨_, rfl⟩
    have hba : Below w.heap.size w wa := by rw [hwa]; exact (Below.refl _ _).alloc (Nat.le_refl _) _
    have hsa : w.heap.size < wa.heap.size := by rw [hwa]; simp
    rw [← hwa] at d
    rcases hF3 with rfl | rfl | rfl
    · have hst := fun (a : Addr) (w : World) => run_store Tryz.prog w a (.func (.func 52) #[] #[]) .plain rfl
      have hqm := fun W (hW : Below wa.heap.size wa W) => (hW.block w.heap.size hsa).trans d
      have HQ := Lib.hid hqm
      have HL := Lib.hid (And.intro (hA.below hba) (hS.below hba))
      clear d hqm
      go_enter Tryz.func38, Tryz.ntmps38
      go_wp2_with (go_at_call 33; refine (ck _).mono ?_; rintro e w1 ⟨rfl, hb1⟩; rw [← hwa] at hb1; dsimp only)
      have hs1 := hb1.size
      have dk := blk_new w1 (.cells #[.string (str mark), .bool nt, .bool many, .func (.func 52) #[] #[]] 74)
      have hb2 := hb1.alloc hs1 (.cells #[.string (str mark), .bool nt, .bool many, .func (.func 52) #[] #[]] 74)
      have hs2 : w1.heap.size < (w1.alloc (.cells #[.string (str mark), .bool nt, .bool many, .func (.func 52) #[] #[]] 74)).heap.size := by simp
      have HB2 := Lib.hid hb2
      have hss2 := hb2.size
      obtain ⟨w2, hw2⟩ : ∃ w2, w2 = w1.alloc (.cells #[.string (str mark), .bool nt, .bool many, .func (.func 52) #[] #[]] 74) := ⟨_, rfl⟩
      rw [← hw2] at dk hb2 hs2 HB2 hss2
      rw [← hw2]
      have hf : ∀ W, Below w2.heap.size w2 W → W.cell? ⟨w1.heap.size, 0, none⟩ = some (.string (str mark)) ∧ W.cell? ⟨w1.heap.size, 1, none⟩ = some (.bool nt) ∧ W.cell? ⟨w1.heap.size, 2, none⟩ = some (.bool many) ∧ W.cell? ⟨w1.heap.size, 3, none⟩ = some (.func (.func 52) #[] #[]) ∧
          W.cell? ⟨w.heap.size, 0, none⟩ = some (.int .i64 k) ∧ W.cell? ⟨w.heap.size, 1, none⟩ = some (.string (str n)) ∧ W.cell? ⟨w.heap.size, 2, none⟩ = some (.string (str v)) ∧ W.cell? ⟨w.heap.size, 3, none⟩ = some (.slice A ns cap) ∧ Below w2.heap.size w2 W := fun W hW => by
        have x1 := (hW.block w1.heap.size hs2).trans dk
        have x2 := HQ.out W (HB2.out.trans (hW.mono hss2))
        exact ⟨blk_cell x1 0, blk_cell x1 1, blk_cell x1 2, blk_cell x1 3, blk_cell x2 0, blk_cell x2 1, blk_cell x2 2, blk_cell x2 3, hW⟩
      have HC := Lib.hid hf
      clear hf dk hb2 hb1 ck hw2 hst hs1
      refine wp_region_held_drew (S := fun W => W.cell? ⟨w1.heap.size, 0, none⟩ = some (.string (str mark)) ∧ W.cell? ⟨w1.heap.size, 1, none⟩ = some (.bool nt) ∧ W.cell? ⟨w1.heap.size, 2, none⟩ = some (.bool many) ∧ W.cell? ⟨w1.heap.size, 3, none⟩ = some (.func (.func 52) #[] #[]) ∧
          W.cell? ⟨w.heap.size, 0, none⟩ = some (.int .i64 k) ∧ W.cell? ⟨w.heap.size, 1, none⟩ = some (.string (str n)) ∧ W.cell? ⟨w.heap.size, 2, none⟩ = some (.string (str v)) ∧ W.cell? ⟨w.heap.size, 3, none⟩ = some (.slice A ns cap) ∧ Below w2.heap.size w2 W) (by kernel_rfl) (HC.out _ (Below.drew (Below.refl _ _))) (fun hHeld => ?_)
      refine held_w (i := 0) (d := some 13) (v := ?_) rfl (by kernel_rfl) (by kernel_rfl) (by kernel_rfl) (fun _ _ _ h => h) (by rfl) ?_ hHeld ?_
      rotate_left
      · intro w' hSw; obtain ⟨q0, q1, q2, q3, q4, q5, q6, q7, q8⟩ := hSw; simp only [List.getElem?_toArray, List.getElem?_cons_zero, List.getElem?_cons_succ]; go_simp; try with_reducible rfl
      try simp only [Act.put, List.setIfInBounds_toArray, List.set_cons_zero, List.set_cons_succ]
      refine held_w (i := 1) (d := some 14) (v := ?_) rfl (by kernel_rfl) (by kernel_rfl) (by kernel_rfl) (fun _ _ _ h => h) (by rfl) ?_ hHeld ?_
      rotate_left
      · intro w' hSw; obtain ⟨q0, q1, q2, q3, q4, q5, q6, q7, q8⟩ := hSw; simp only [List.getElem?_toArray, List.getElem?_cons_zero, List.getElem?_cons_succ]; go_simp; try with_reducible rfl
      try simp only [Act.put, List.setIfInBounds_toArray, List.set_cons_zero, List.set_cons_succ]
      refine held_w (i := 2) (d := some 15) (v := ?_) rfl (by kernel_rfl) (by kernel_rfl) (by kernel_rfl) (fun _ _ _ h => h) (by rfl) ?_ hHeld ?_
      rotate_left
      · intro w' hSw; obtain ⟨q0, q1, q2, q3, q4, q5, q6, q7, q8⟩ := hSw; simp only [List.getElem?_toArray, List.getElem?_cons_zero, List.getElem?_cons_succ]; go_simp; try with_reducible rfl
      try simp only [Act.put, List.setIfInBounds_toArray, List.set_cons_zero, List.set_cons_succ]
      refine held_w (i := 3) (d := some 16) (v := ?_) rfl (by kernel_rfl) (by kernel_rfl) (by kernel_rfl) (fun _ _ _ h => h) (by rfl) ?_ hHeld ?_
      rotate_left
      · intro w' hSw; obtain ⟨q0, q1, q2, q3, q4, q5, q6, q7, q8⟩ := hSw; simp only [List.getElem?_toArray, List.getElem?_cons_zero, List.getElem?_cons_succ]; go_simp; try with_reducible rfl
      try simp only [Act.put, List.setIfInBounds_toArray, List.set_cons_zero, List.set_cons_succ]
      refine held_w (i := 4) (d := some 17) (v := ?_) rfl (by kernel_rfl) (by kernel_rfl) (by kernel_rfl) (fun _ _ _ h => h) (by rfl) ?_ hHeld ?_
      rotate_left
      · intro w' hSw; obtain ⟨q0, q1, q2, q3, q4, q5, q6, q7, q8⟩ := hSw; simp only [List.getElem?_toArray, List.getElem?_cons_zero, List.getElem?_cons_succ]; go_simp; try with_reducible rfl
      try simp only [Act.put, List.setIfInBounds_toArray, List.set_cons_zero, List.set_cons_succ]
      refine held_w (i := 5) (d := some 18) (v := ?_) rfl (by kernel_rfl) (by kernel_rfl) (by kernel_rfl) (fun _ _ _ h => h) (by rfl) ?_ hHeld ?_
      rotate_left
      · intro w' hSw; obtain ⟨q0, q1, q2, q3, q4, q5, q6, q7, q8⟩ := hSw; simp only [List.getElem?_toArray, List.getElem?_cons_zero, List.getElem?_cons_succ]; go_simp; try with_reducible rfl
      try simp only [Act.put, List.setIfInBounds_toArray, List.set_cons_zero, List.set_cons_succ]
      refine held_w (i := 6) (d := some 19) (v := ?_) rfl (by kernel_rfl) (by kernel_rfl) (by kernel_rfl) (fun _ _ _ h => h) (by rfl) ?_ hHeld ?_
      rotate_left
      · intro w' hSw; obtain ⟨q0, q1, q2, q3, q4, q5, q6, q7, q8⟩ := hSw; simp only [List.getElem?_toArray, List.getElem?_cons_zero, List.getElem?_cons_succ]; go_simp; try with_reducible rfl
      try simp only [Act.put, List.setIfInBounds_toArray, List.set_cons_zero, List.set_cons_succ]
      refine held_w (i := 7) (d := some 20) (v := ?_) rfl (by kernel_rfl) (by kernel_rfl) (by kernel_rfl) (fun _ _ _ h => h) (by rfl) ?_ hHeld ?_
      rotate_left
      · intro w' hSw; obtain ⟨q0, q1, q2, q3, q4, q5, q6, q7, q8⟩ := hSw; simp only [List.getElem?_toArray, List.getElem?_cons_zero, List.getElem?_cons_succ]; go_simp; try with_reducible rfl
      try simp only [Act.put, List.setIfInBounds_toArray, List.set_cons_zero, List.set_cons_succ]
      refine held_w (i := 10) (d := some 23) (v := ?_) rfl (by kernel_rfl) (by kernel_rfl) (by kernel_rfl) (fun _ _ _ h => h) (by rfl) ?_ hHeld ?_
      rotate_left
      · intro w' hSw; obtain ⟨q0, q1, q2, q3, q4, q5, q6, q7, q8⟩ := hSw; simp only [List.getElem?_toArray, List.getElem?_cons_zero, List.getElem?_cons_succ]; go_simp; try with_reducible rfl
      try simp only [Act.put, List.setIfInBounds_toArray, List.set_cons_zero, List.set_cons_succ]
      refine held_w (i := 11) (d := some 24) (v := ?_) rfl (by kernel_rfl) (by kernel_rfl) (by kernel_rfl) (fun _ _ _ h => h) (by rfl) ?_ hHeld ?_
      rotate_left
      · intro w' hSw; obtain ⟨q0, q1, q2, q3, q4, q5, q6, q7, q8⟩ := hSw; simp only [List.getElem?_toArray, List.getElem?_cons_zero, List.getElem?_cons_succ]; go_simp; try with_reducible rfl
      try simp only [Act.put, List.setIfInBounds_toArray, List.set_cons_zero, List.set_cons_succ]
      refine held_c (i := 8) (by kernel_rfl) (by rfl) (fun K hK => ?_)
      simp only [List.getElem?_toArray, List.getElem?_cons_zero, List.getElem?_cons_succ]
      go_simp
      refine (HG.out _ (HL.out.1.below (HB2.out.trans (hHeld.2.2.2.2.2.2.2.2.mono hss2)))).mono ?_
      rintro e w3 ⟨rfl, hb3⟩
      have hb23 := below2 hHeld.2.2.2.2.2.2.2.2 hb3 hHeld.2.2.2.2.2.2.2.2.size
      refine hK.out _ _ (HC.out _ hb23) (fun hHeld => ?_)
      clear hK K hb3
      try simp only [Act.put, List.setIfInBounds_toArray, List.set_cons_zero, List.set_cons_succ]
      refine held_c (i := 9) (by kernel_rfl) (by rfl) (fun K hK => ?_)
      simp only [List.getElem?_toArray, List.getElem?_cons_zero, List.getElem?_cons_succ]
      go_simp
      refine (HF.out _ hm (HL.out.2.below (HB2.out.trans (hHeld.2.2.2.2.2.2.2.2.mono hss2)))).mono ?_
      rintro e w4 ⟨rfl, hb4⟩
      have hb24 := below2 hHeld.2.2.2.2.2.2.2.2 hb4 hHeld.2.2.2.2.2.2.2.2.size
      refine hK.out _ _ (HC.out _ hb24) (fun hHeld => ?_)
      clear hK K hb4
      try simp only [Act.put, List.setIfInBounds_toArray, List.set_cons_zero, List.set_cons_succ]
      refine held_w (i := 12) (d := some 25) (v := ?_) rfl (by kernel_rfl) (by kernel_rfl) (by kernel_rfl) (fun _ _ _ h => h) (by rfl) ?_ hHeld ?_
      rotate_left
      · intro w' hSw; obtain ⟨q0, q1, q2, q3, q4, q5, q6, q7, q8⟩ := hSw; simp only [List.getElem?_toArray, List.getElem?_cons_zero, List.getElem?_cons_succ]; go_simp; try with_reducible rfl
      try simp only [Act.put, List.setIfInBounds_toArray, List.set_cons_zero, List.set_cons_succ]
      refine held_w (i := 13) (d := some 26) (v := ?_) rfl (by kernel_rfl) (by kernel_rfl) (by kernel_rfl) (fun _ _ _ h => h) (by rfl) ?_ hHeld ?_
      rotate_left
      · intro w' hSw; obtain ⟨q0, q1, q2, q3, q4, q5, q6, q7, q8⟩ := hSw; simp only [List.getElem?_toArray, List.getElem?_cons_zero, List.getElem?_cons_succ]; go_simp; try with_reducible rfl
      try simp only [Act.put, List.setIfInBounds_toArray, List.set_cons_zero, List.set_cons_succ]
      refine held_w (i := 14) (d := some 4) (v := ?_) rfl (by kernel_rfl) (by kernel_rfl) (by kernel_rfl) (fun _ _ _ h => h) (by rfl) ?_ hHeld ?_
      rotate_left
      · intro w' hSw; obtain ⟨q0, q1, q2, q3, q4, q5, q6, q7, q8⟩ := hSw; simp only [List.getElem?_toArray, List.getElem?_cons_zero, List.getElem?_cons_succ]; go_simp; try with_reducible rfl
      try simp only [Act.put, List.setIfInBounds_toArray, List.set_cons_zero, List.set_cons_succ]
      refine wpAnyH_done (by kernel_rfl) ?_ _
      go_wp2_with fail
      go_ret
      exact ⟨rfl, hba.trans ((HB2.out.mono (by omega)).trans (hb24.mono (by omega)))⟩
    · have hst := fun (a : Addr) (w : World) => run_store Tryz.prog w a (.func (.func 53) #[] #[]) .plain rfl
      have hqm := fun W (hW : Below wa.heap.size wa W) => (hW.block w.heap.size hsa).trans d
      have HQ := Lib.hid hqm
      have HL := Lib.hid (And.intro (hA.below hba) (hS.below hba))
      clear d hqm
      go_enter Tryz.func38, Tryz.ntmps38
      go_wp2_with (go_at_call 33; refine (ck _).mono ?_; rintro e w1 ⟨rfl, hb1⟩; rw [← hwa] at hb1; dsimp only)
      have hs1 := hb1.size
      have dk := blk_new w1 (.cells #[.string (str mark), .bool nt, .bool many, .func (.func 53) #[] #[]] 74)
      have hb2 := hb1.alloc hs1 (.cells #[.string (str mark), .bool nt, .bool many, .func (.func 53) #[] #[]] 74)
      have hs2 : w1.heap.size < (w1.alloc (.cells #[.string (str mark), .bool nt, .bool many, .func (.func 53) #[] #[]] 74)).heap.size := by simp
      have HB2 := Lib.hid hb2
      have hss2 := hb2.size
      obtain ⟨w2, hw2⟩ : ∃ w2, w2 = w1.alloc (.cells #[.string (str mark), .bool nt, .bool many, .func (.func 53) #[] #[]] 74) := ⟨_, rfl⟩
      rw [← hw2] at dk hb2 hs2 HB2 hss2
      rw [← hw2]
      have hf : ∀ W, Below w2.heap.size w2 W → W.cell? ⟨w1.heap.size, 0, none⟩ = some (.string (str mark)) ∧ W.cell? ⟨w1.heap.size, 1, none⟩ = some (.bool nt) ∧ W.cell? ⟨w1.heap.size, 2, none⟩ = some (.bool many) ∧ W.cell? ⟨w1.heap.size, 3, none⟩ = some (.func (.func 53) #[] #[]) ∧
          W.cell? ⟨w.heap.size, 0, none⟩ = some (.int .i64 k) ∧ W.cell? ⟨w.heap.size, 1, none⟩ = some (.string (str n)) ∧ W.cell? ⟨w.heap.size, 2, none⟩ = some (.string (str v)) ∧ W.cell? ⟨w.heap.size, 3, none⟩ = some (.slice A ns cap) ∧ Below w2.heap.size w2 W := fun W hW => by
        have x1 := (hW.block w1.heap.size hs2).trans dk
        have x2 := HQ.out W (HB2.out.trans (hW.mono hss2))
        exact ⟨blk_cell x1 0, blk_cell x1 1, blk_cell x1 2, blk_cell x1 3, blk_cell x2 0, blk_cell x2 1, blk_cell x2 2, blk_cell x2 3, hW⟩
      have HC := Lib.hid hf
      clear hf dk hb2 hb1 ck hw2 hst hs1
      refine wp_region_held_drew (S := fun W => W.cell? ⟨w1.heap.size, 0, none⟩ = some (.string (str mark)) ∧ W.cell? ⟨w1.heap.size, 1, none⟩ = some (.bool nt) ∧ W.cell? ⟨w1.heap.size, 2, none⟩ = some (.bool many) ∧ W.cell? ⟨w1.heap.size, 3, none⟩ = some (.func (.func 53) #[] #[]) ∧
          W.cell? ⟨w.heap.size, 0, none⟩ = some (.int .i64 k) ∧ W.cell? ⟨w.heap.size, 1, none⟩ = some (.string (str n)) ∧ W.cell? ⟨w.heap.size, 2, none⟩ = some (.string (str v)) ∧ W.cell? ⟨w.heap.size, 3, none⟩ = some (.slice A ns cap) ∧ Below w2.heap.size w2 W) (by kernel_rfl) (HC.out _ (Below.drew (Below.refl _ _))) (fun hHeld => ?_)
      refine held_w (i := 0) (d := some 13) (v := ?_) rfl (by kernel_rfl) (by kernel_rfl) (by kernel_rfl) (fun _ _ _ h => h) (by rfl) ?_ hHeld ?_
      rotate_left
      · intro w' hSw; obtain ⟨q0, q1, q2, q3, q4, q5, q6, q7, q8⟩ := hSw; simp only [List.getElem?_toArray, List.getElem?_cons_zero, List.getElem?_cons_succ]; go_simp; try with_reducible rfl
      try simp only [Act.put, List.setIfInBounds_toArray, List.set_cons_zero, List.set_cons_succ]
      refine held_w (i := 1) (d := some 14) (v := ?_) rfl (by kernel_rfl) (by kernel_rfl) (by kernel_rfl) (fun _ _ _ h => h) (by rfl) ?_ hHeld ?_
      rotate_left
      · intro w' hSw; obtain ⟨q0, q1, q2, q3, q4, q5, q6, q7, q8⟩ := hSw; simp only [List.getElem?_toArray, List.getElem?_cons_zero, List.getElem?_cons_succ]; go_simp; try with_reducible rfl
      try simp only [Act.put, List.setIfInBounds_toArray, List.set_cons_zero, List.set_cons_succ]
      refine held_w (i := 2) (d := some 15) (v := ?_) rfl (by kernel_rfl) (by kernel_rfl) (by kernel_rfl) (fun _ _ _ h => h) (by rfl) ?_ hHeld ?_
      rotate_left
      · intro w' hSw; obtain ⟨q0, q1, q2, q3, q4, q5, q6, q7, q8⟩ := hSw; simp only [List.getElem?_toArray, List.getElem?_cons_zero, List.getElem?_cons_succ]; go_simp; try with_reducible rfl
      try simp only [Act.put, List.setIfInBounds_toArray, List.set_cons_zero, List.set_cons_succ]
      refine held_w (i := 3) (d := some 16) (v := ?_) rfl (by kernel_rfl) (by kernel_rfl) (by kernel_rfl) (fun _ _ _ h => h) (by rfl) ?_ hHeld ?_
      rotate_left
      · intro w' hSw; obtain ⟨q0, q1, q2, q3, q4, q5, q6, q7, q8⟩ := hSw; simp only [List.getElem?_toArray, List.getElem?_cons_zero, List.getElem?_cons_succ]; go_simp; try with_reducible rfl
      try simp only [Act.put, List.setIfInBounds_toArray, List.set_cons_zero, List.set_cons_succ]
      refine held_w (i := 4) (d := some 17) (v := ?_) rfl (by kernel_rfl) (by kernel_rfl) (by kernel_rfl) (fun _ _ _ h => h) (by rfl) ?_ hHeld ?_
      rotate_left
      · intro w' hSw; obtain ⟨q0, q1, q2, q3, q4, q5, q6, q7, q8⟩ := hSw; simp only [List.getElem?_toArray, List.getElem?_cons_zero, List.getElem?_cons_succ]; go_simp; try with_reducible rfl
      try simp only [Act.put, List.setIfInBounds_toArray, List.set_cons_zero, List.set_cons_succ]
      refine held_w (i := 5) (d := some 18) (v := ?_) rfl (by kernel_rfl) (by kernel_rfl) (by kernel_rfl) (fun _ _ _ h => h) (by rfl) ?_ hHeld ?_
      rotate_left
      · intro w' hSw; obtain ⟨q0, q1, q2, q3, q4, q5, q6, q7, q8⟩ := hSw; simp only [List.getElem?_toArray, List.getElem?_cons_zero, List.getElem?_cons_succ]; go_simp; try with_reducible rfl
      try simp only [Act.put, List.setIfInBounds_toArray, List.set_cons_zero, List.set_cons_succ]
      refine held_w (i := 6) (d := some 19) (v := ?_) rfl (by kernel_rfl) (by kernel_rfl) (by kernel_rfl) (fun _ _ _ h => h) (by rfl) ?_ hHeld ?_
      rotate_left
      · intro w' hSw; obtain ⟨q0, q1, q2, q3, q4, q5, q6, q7, q8⟩ := hSw; simp only [List.getElem?_toArray, List.getElem?_cons_zero, List.getElem?_cons_succ]; go_simp; try with_reducible rfl
      try simp only [Act.put, List.setIfInBounds_toArray, List.set_cons_zero, List.set_cons_succ]
      refine held_w (i := 7) (d := some 20) (v := ?_) rfl (by kernel_rfl) (by kernel_rfl) (by kernel_rfl) (fun _ _ _ h => h) (by rfl) ?_ hHeld ?_
      rotate_left
      · intro w' hSw; obtain ⟨q0, q1, q2, q3, q4, q5, q6, q7, q8⟩ := hSw; simp only [List.getElem?_toArray, List.getElem?_cons_zero, List.getElem?_cons_succ]; go_simp; try with_reducible rfl
      try simp only [Act.put, List.setIfInBounds_toArray, List.set_cons_zero, List.set_cons_succ]
      refine held_w (i := 10) (d := some 23) (v := ?_) rfl (by kernel_rfl) (by kernel_rfl) (by kernel_rfl) (fun _ _ _ h => h) (by rfl) ?_ hHeld ?_
      rotate_left
      · intro w' hSw; obtain ⟨q0, q1, q2, q3, q4, q5, q6, q7, q8⟩ := hSw; simp only [List.getElem?_toArray, List.getElem?_cons_zero, List.getElem?_cons_succ]; go_simp; try with_reducible rfl
      try simp only [Act.put, List.setIfInBounds_toArray, List.set_cons_zero, List.set_cons_succ]
      refine held_w (i := 11) (d := some 24) (v := ?_) rfl (by kernel_rfl) (by kernel_rfl) (by kernel_rfl) (fun _ _ _ h => h) (by rfl) ?_ hHeld ?_
      rotate_left
      · intro w' hSw; obtain ⟨q0, q1, q2, q3, q4, q5, q6, q7, q8⟩ := hSw; simp only [List.getElem?_toArray, List.getElem?_cons_zero, List.getElem?_cons_succ]; go_simp; try with_reducible rfl
      try simp only [Act.put, List.setIfInBounds_toArray, List.set_cons_zero, List.set_cons_succ]
      refine held_c (i := 8) (by kernel_rfl) (by rfl) (fun K hK => ?_)
      simp only [List.getElem?_toArray, List.getElem?_cons_zero, List.getElem?_cons_succ]
      go_simp
      refine (HG.out _ (HL.out.1.below (HB2.out.trans (hHeld.2.2.2.2.2.2.2.2.mono hss2)))).mono ?_
      rintro e w3 ⟨rfl, hb3⟩
      have hb23 := below2 hHeld.2.2.2.2.2.2.2.2 hb3 hHeld.2.2.2.2.2.2.2.2.size
      refine hK.out _ _ (HC.out _ hb23) (fun hHeld => ?_)
      clear hK K hb3
      try simp only [Act.put, List.setIfInBounds_toArray, List.set_cons_zero, List.set_cons_succ]
      refine held_c (i := 9) (by kernel_rfl) (by rfl) (fun K hK => ?_)
      simp only [List.getElem?_toArray, List.getElem?_cons_zero, List.getElem?_cons_succ]
      go_simp
      refine (HF.out _ hm (HL.out.2.below (HB2.out.trans (hHeld.2.2.2.2.2.2.2.2.mono hss2)))).mono ?_
      rintro e w4 ⟨rfl, hb4⟩
      have hb24 := below2 hHeld.2.2.2.2.2.2.2.2 hb4 hHeld.2.2.2.2.2.2.2.2.size
      refine hK.out _ _ (HC.out _ hb24) (fun hHeld => ?_)
      clear hK K hb4
      try simp only [Act.put, List.setIfInBounds_toArray, List.set_cons_zero, List.set_cons_succ]
      refine held_w (i := 12) (d := some 25) (v := ?_) rfl (by kernel_rfl) (by kernel_rfl) (by kernel_rfl) (fun _ _ _ h => h) (by rfl) ?_ hHeld ?_
      rotate_left
      · intro w' hSw; obtain ⟨q0, q1, q2, q3, q4, q5, q6, q7, q8⟩ := hSw; simp only [List.getElem?_toArray, List.getElem?_cons_zero, List.getElem?_cons_succ]; go_simp; try with_reducible rfl
      try simp only [Act.put, List.setIfInBounds_toArray, List.set_cons_zero, List.set_cons_succ]
      refine held_w (i := 13) (d := some 26) (v := ?_) rfl (by kernel_rfl) (by kernel_rfl) (by kernel_rfl) (fun _ _ _ h => h) (by rfl) ?_ hHeld ?_
      rotate_left
      · intro w' hSw; obtain ⟨q0, q1, q2, q3, q4, q5, q6, q7, q8⟩ := hSw; simp only [List.getElem?_toArray, List.getElem?_cons_zero, List.getElem?_cons_succ]; go_simp; try with_reducible rfl
      try simp only [Act.put, List.setIfInBounds_toArray, List.set_cons_zero, List.set_cons_succ]
      refine held_w (i := 14) (d := some 4) (v := ?_) rfl (by kernel_rfl) (by kernel_rfl) (by kernel_rfl) (fun _ _ _ h => h) (by rfl) ?_ hHeld ?_
      rotate_left
      · intro w' hSw; obtain ⟨q0, q1, q2, q3, q4, q5, q6, q7, q8⟩ := hSw; simp only [List.getElem?_toArray, List.getElem?_cons_zero, List.getElem?_cons_succ]; go_simp; try with_reducible rfl
      try simp only [Act.put, List.setIfInBounds_toArray, List.set_cons_zero, List.set_cons_succ]
      refine wpAnyH_done (by kernel_rfl) ?_ _
      go_wp2_with fail
      go_ret
      exact ⟨rfl, hba.trans ((HB2.out.mono (by omega)).trans (hb24.mono (by omega)))⟩
    · have hst := fun (a : Addr) (w : World) => run_store Tryz.prog w a (.func (.func 55) #[] #[]) .plain rfl
      have hqm := fun W (hW : Below wa.heap.size wa W) => (hW.block w.heap.size hsa).trans d
      have HQ := Lib.hid hqm
      have HL := Lib.hid (And.intro (hA.below hba) (hS.below hba))
      clear d hqm
      go_enter Tryz.func38, Tryz.ntmps38
      go_wp2_with (go_at_call 33; refine (ck _).mono ?_; rintro e w1 ⟨rfl, hb1⟩; rw [← hwa] at hb1; dsimp only)
      have hs1 := hb1.size
      have dk := blk_new w1 (.cells #[.string (str mark), .bool nt, .bool many, .func (.func 55) #[] #[]] 74)
      have hb2 := hb1.alloc hs1 (.cells #[.string (str mark), .bool nt, .bool many, .func (.func 55) #[] #[]] 74)
      have hs2 : w1.heap.size < (w1.alloc (.cells #[.string (str mark), .bool nt, .bool many, .func (.func 55) #[] #[]] 74)).heap.size := by simp
      have HB2 := Lib.hid hb2
      have hss2 := hb2.size
      obtain ⟨w2, hw2⟩ : ∃ w2, w2 = w1.alloc (.cells #[.string (str mark), .bool nt, .bool many, .func (.func 55) #[] #[]] 74) := ⟨_, rfl⟩
      rw [← hw2] at dk hb2 hs2 HB2 hss2
      rw [← hw2]
      have hf : ∀ W, Below w2.heap.size w2 W → W.cell? ⟨w1.heap.size, 0, none⟩ = some (.string (str mark)) ∧ W.cell? ⟨w1.heap.size, 1, none⟩ = some (.bool nt) ∧ W.cell? ⟨w1.heap.size, 2, none⟩ = some (.bool many) ∧ W.cell? ⟨w1.heap.size, 3, none⟩ = some (.func (.func 55) #[] #[]) ∧
          W.cell? ⟨w.heap.size, 0, none⟩ = some (.int .i64 k) ∧ W.cell? ⟨w.heap.size, 1, none⟩ = some (.string (str n)) ∧ W.cell? ⟨w.heap.size, 2, none⟩ = some (.string (str v)) ∧ W.cell? ⟨w.heap.size, 3, none⟩ = some (.slice A ns cap) ∧ Below w2.heap.size w2 W := fun W hW => by
        have x1 := (hW.block w1.heap.size hs2).trans dk
        have x2 := HQ.out W (HB2.out.trans (hW.mono hss2))
        exact ⟨blk_cell x1 0, blk_cell x1 1, blk_cell x1 2, blk_cell x1 3, blk_cell x2 0, blk_cell x2 1, blk_cell x2 2, blk_cell x2 3, hW⟩
      have HC := Lib.hid hf
      clear hf dk hb2 hb1 ck hw2 hst hs1
      refine wp_region_held_drew (S := fun W => W.cell? ⟨w1.heap.size, 0, none⟩ = some (.string (str mark)) ∧ W.cell? ⟨w1.heap.size, 1, none⟩ = some (.bool nt) ∧ W.cell? ⟨w1.heap.size, 2, none⟩ = some (.bool many) ∧ W.cell? ⟨w1.heap.size, 3, none⟩ = some (.func (.func 55) #[] #[]) ∧
          W.cell? ⟨w.heap.size, 0, none⟩ = some (.int .i64 k) ∧ W.cell? ⟨w.heap.size, 1, none⟩ = some (.string (str n)) ∧ W.cell? ⟨w.heap.size, 2, none⟩ = some (.string (str v)) ∧ W.cell? ⟨w.heap.size, 3, none⟩ = some (.slice A ns cap) ∧ Below w2.heap.size w2 W) (by kernel_rfl) (HC.out _ (Below.drew (Below.refl _ _))) (fun hHeld => ?_)
      refine held_w (i := 0) (d := some 13) (v := ?_) rfl (by kernel_rfl) (by kernel_rfl) (by kernel_rfl) (fun _ _ _ h => h) (by rfl) ?_ hHeld ?_
      rotate_left
      · intro w' hSw; obtain ⟨q0, q1, q2, q3, q4, q5, q6, q7, q8⟩ := hSw; simp only [List.getElem?_toArray, List.getElem?_cons_zero, List.getElem?_cons_succ]; go_simp; try with_reducible rfl
      try simp only [Act.put, List.setIfInBounds_toArray, List.set_cons_zero, List.set_cons_succ]
      refine held_w (i := 1) (d := some 14) (v := ?_) rfl (by kernel_rfl) (by kernel_rfl) (by kernel_rfl) (fun _ _ _ h => h) (by rfl) ?_ hHeld ?_
      rotate_left
      · intro w' hSw; obtain ⟨q0, q1, q2, q3, q4, q5, q6, q7, q8⟩ := hSw; simp only [List.getElem?_toArray, List.getElem?_cons_zero, List.getElem?_cons_succ]; go_simp; try with_reducible rfl
      try simp only [Act.put, List.setIfInBounds_toArray, List.set_cons_zero, List.set_cons_succ]
      refine held_w (i := 2) (d := some 15) (v := ?_) rfl (by kernel_rfl) (by kernel_rfl) (by kernel_rfl) (fun _ _ _ h => h) (by rfl) ?_ hHeld ?_
      rotate_left
      · intro w' hSw; obtain ⟨q0, q1, q2, q3, q4, q5, q6, q7, q8⟩ := hSw; simp only [List.getElem?_toArray, List.getElem?_cons_zero, List.getElem?_cons_succ]; go_simp; try with_reducible rfl
      try simp only [Act.put, List.setIfInBounds_toArray, List.set_cons_zero, List.set_cons_succ]
      refine held_w (i := 3) (d := some 16) (v := ?_) rfl (by kernel_rfl) (by kernel_rfl) (by kernel_rfl) (fun _ _ _ h => h) (by rfl) ?_ hHeld ?_
      rotate_left
      · intro w' hSw; obtain ⟨q0, q1, q2, q3, q4, q5, q6, q7, q8⟩ := hSw; simp only [List.getElem?_toArray, List.getElem?_cons_zero, List.getElem?_cons_succ]; go_simp; try with_reducible rfl
      try simp only [Act.put, List.setIfInBounds_toArray, List.set_cons_zero, List.set_cons_succ]
      refine held_w (i := 4) (d := some 17) (v := ?_) rfl (by kernel_rfl) (by kernel_rfl) (by kernel_rfl) (fun _ _ _ h => h) (by rfl) ?_ hHeld ?_
      rotate_left
      · intro w' hSw; obtain ⟨q0, q1, q2, q3, q4, q5, q6, q7, q8⟩ := hSw; simp only [List.getElem?_toArray, List.getElem?_cons_zero, List.getElem?_cons_succ]; go_simp; try with_reducible rfl
      try simp only [Act.put, List.setIfInBounds_toArray, List.set_cons_zero, List.set_cons_succ]
      refine held_w (i := 5) (d := some 18) (v := ?_) rfl (by kernel_rfl) (by kernel_rfl) (by kernel_rfl) (fun _ _ _ h => h) (by rfl) ?_ hHeld ?_
      rotate_left
      · intro w' hSw; obtain ⟨q0, q1, q2, q3, q4, q5, q6, q7, q8⟩ := hSw; simp only [List.getElem?_toArray, List.getElem?_cons_zero, List.getElem?_cons_succ]; go_simp; try with_reducible rfl
      try simp only [Act.put, List.setIfInBounds_toArray, List.set_cons_zero, List.set_cons_succ]
      refine held_w (i := 6) (d := some 19) (v := ?_) rfl (by kernel_rfl) (by kernel_rfl) (by kernel_rfl) (fun _ _ _ h => h) (by rfl) ?_ hHeld ?_
      rotate_left
      · intro w' hSw; obtain ⟨q0, q1, q2, q3, q4, q5, q6, q7, q8⟩ := hSw; simp only [List.getElem?_toArray, List.getElem?_cons_zero, List.getElem?_cons_succ]; go_simp; try with_reducible rfl
      try simp only [Act.put, List.setIfInBounds_toArray, List.set_cons_zero, List.set_cons_succ]
      refine held_w (i := 7) (d := some 20) (v := ?_) rfl (by kernel_rfl) (by kernel_rfl) (by kernel_rfl) (fun _ _ _ h => h) (by rfl) ?_ hHeld ?_
      rotate_left
      · intro w' hSw; obtain ⟨q0, q1, q2, q3, q4, q5, q6, q7, q8⟩ := hSw; simp only [List.getElem?_toArray, List.getElem?_cons_zero, List.getElem?_cons_succ]; go_simp; try with_reducible rfl
      try simp only [Act.put, List.setIfInBounds_toArray, List.set_cons_zero, List.set_cons_succ]
      refine held_w (i := 10) (d := some 23) (v := ?_) rfl (by kernel_rfl) (by kernel_rfl) (by kernel_rfl) (fun _ _ _ h => h) (by rfl) ?_ hHeld ?_
      rotate_left
      · intro w' hSw; obtain ⟨q0, q1, q2, q3, q4, q5, q6, q7, q8⟩ := hSw; simp only [List.getElem?_toArray, List.getElem?_cons_zero, List.getElem?_cons_succ]; go_simp; try with_reducible rfl
      try simp only [Act.put, List.setIfInBounds_toArray, List.set_cons_zero, List.set_cons_succ]
      refine held_w (i := 11) (d := some 24) (v := ?_) rfl (by kernel_rfl) (by kernel_rfl) (by kernel_rfl) (fun _ _ _ h => h) (by rfl) ?_ hHeld ?_
      rotate_left
      · intro w' hSw; obtain ⟨q0, q1, q2, q3, q4, q5, q6, q7, q8⟩ := hSw; simp only [List.getElem?_toArray, List.getElem?_cons_zero, List.getElem?_cons_succ]; go_simp; try with_reducible rfl
      try simp only [Act.put, List.setIfInBounds_toArray, List.set_cons_zero, List.set_cons_succ]
      refine held_c (i := 8) (by kernel_rfl) (by rfl) (fun K hK => ?_)
      simp only [List.getElem?_toArray, List.getElem?_cons_zero, List.getElem?_cons_succ]
      go_simp
      refine (HG.out _ (HL.out.1.below (HB2.out.trans (hHeld.2.2.2.2.2.2.2.2.mono hss2)))).mono ?_
      rintro e w3 ⟨rfl, hb3⟩
      have hb23 := below2 hHeld.2.2.2.2.2.2.2.2 hb3 hHeld.2.2.2.2.2.2.2.2.size
      refine hK.out _ _ (HC.out _ hb23) (fun hHeld => ?_)
      clear hK K hb3
      try simp only [Act.put, List.setIfInBounds_toArray, List.set_cons_zero, List.set_cons_succ]
      refine held_c (i := 9) (by kernel_rfl) (by rfl) (fun K hK => ?_)
      simp only [List.getElem?_toArray, List.getElem?_cons_zero, List.getElem?_cons_succ]
      go_simp
      refine (HF.out _ hm (HL.out.2.below (HB2.out.trans (hHeld.2.2.2.2.2.2.2.2.mono hss2)))).mono ?_
      rintro e w4 ⟨rfl, hb4⟩
      have hb24 := below2 hHeld.2.2.2.2.2.2.2.2 hb4 hHeld.2.2.2.2.2.2.2.2.size
      refine hK.out _ _ (HC.out _ hb24) (fun hHeld => ?_)
      clear hK K hb4
      try simp only [Act.put, List.setIfInBounds_toArray, List.set_cons_zero, List.set_cons_succ]
      refine held_w (i := 12) (d := some 25) (v := ?_) rfl (by kernel_rfl) (by kernel_rfl) (by kernel_rfl) (fun _ _ _ h => h) (by rfl) ?_ hHeld ?_
      rotate_left
      · intro w' hSw; obtain ⟨q0, q1, q2, q3, q4, q5, q6, q7, q8⟩ := hSw; simp only [List.getElem?_toArray, List.getElem?_cons_zero, List.getElem?_cons_succ]; go_simp; try with_reducible rfl
      try simp only [Act.put, List.setIfInBounds_toArray, List.set_cons_zero, List.set_cons_succ]
      refine held_w (i := 13) (d := some 26) (v := ?_) rfl (by kernel_rfl) (by kernel_rfl) (by kernel_rfl) (fun _ _ _ h => h) (by rfl) ?_ hHeld ?_
      rotate_left
      · intro w' hSw; obtain ⟨q0, q1, q2, q3, q4, q5, q6, q7, q8⟩ := hSw; simp only [List.getElem?_toArray, List.getElem?_cons_zero, List.getElem?_cons_succ]; go_simp; try with_reducible rfl
      try simp only [Act.put, List.setIfInBounds_toArray, List.set_cons_zero, List.set_cons_succ]
      refine held_w (i := 14) (d := some 4) (v := ?_) rfl (by kernel_rfl) (by kernel_rfl) (by kernel_rfl) (fun _ _ _ h => h) (by rfl) ?_ hHeld ?_
      rotate_left
      · intro w' hSw; obtain ⟨q0, q1, q2, q3, q4, q5, q6, q7, q8⟩ := hSw; simp only [List.getElem?_toArray, List.getElem?_cons_zero, List.getElem?_cons_succ]; go_simp; try with_reducible rfl
      try simp only [Act.put, List.setIfInBounds_toArray, List.set_cons_zero, List.set_cons_succ]
      refine wpAnyH_done (by kernel_rfl) ?_ _
      go_wp2_with fail
      go_ret
      exact ⟨rfl, hba.trans ((HB2.out.mono (by omega)).trans (hb24.mono (by omega)))⟩
  · rw [decide_eq_false hk] at ck
    rw [oneL_none m l hk]
    have e : kindL m.1 = kindV [] false false .nilFunc := by
      unfold kindL
      rw [if_neg (by omega), if_neg (by omega), if_neg (by omega), if_neg (by omega)]
    rw [e] at ck
    unfold kindV at ck
    have hst := fun (a : Addr) (w : World) => run_store Tryz.prog w a .nilFunc .plain rfl
    clear hk e
    go_enter Tryz.func38, Tryz.ntmps38
    go_wp2_with (go_at_call 33; refine (ck _).mono ?_; rintro e w1 ⟨rfl, hb1⟩; have hsz1 := hb1.size; dsimp only)
    go_quiet (fail)
    go_wp2_with fail
    go_ret
    exact ⟨rfl, below_drewN ((((Below.refl _ _).alloc (Nat.le_refl _) _).trans (hb1.mono (by simp))).alloc (by simp at hsz1; omega) _) _⟩
end Go.Proofs.YtdbifbgjbfnfmaaGreatDoor
/-
  Layer 5 (match): what the document's One returns; it writes nothing that was there.
-/
namespace Go.Proofs.YtdbifbgjbfnfmaaGreatDoor
open Go.RowKit Go.Deep
attribute [local go_sem] str_size str_append str_toList str_get str_extract
set_option linter.unusedVariables false
set_option linter.unusedSimpArgs false
end Go.Proofs.YtdbifbgjbfnfmaaGreatDoor
/-
  Layer 5 (match): what All returns, the program's and the document's; whether labels are large.
-/
namespace Go.Proofs.YtdbifbgjbfnfmaaGreatDoor
open Go.RowKit Go.Deep
attribute [local go_sem] str_size str_append str_toList str_get str_extract
set_option linter.unusedVariables false
set_option linter.unusedSimpArgs false
def allL (ms : List Mat) (l : List Lab) : Bool := ms.all fun m => oneL m l
theorem drop_all {α : Type} (p : α → Bool) (l : List α) (i : Nat) (h : i < l.length) : (l.drop i).all p = (p l[i] && (l.drop (i + 1)).all p) := by
  rw [List.drop_eq_getElem_cons h, List.all_cons]
theorem large_small {l : List Lab} (h : heavyL l = false) : l.length ≤ 2048 ∧ ∀ x ∈ l, x.1.length ≤ 4096 ∧ x.2.length ≤ 4096 := by
  have h1 : l.length + sizeL l ≤ 2048 := by unfold heavyL at h; simpa using h
  refine ⟨by omega, fun x hx => ?_⟩
  have := sizeL_mem l x hx
  omega
end Go.Proofs.YtdbifbgjbfnfmaaGreatDoor
/-
  Layer 5 (match): matchers that may be, plain. No program is named.
-/
namespace Go.Proofs.YtdbifbgjbfnfmaaGreatDoor
open Go.RowKit Go.Deep
/-- Is v behind what stood ahead, if there is any? -/
def lessO : Option (List UInt8) → List UInt8 → Bool
  | none, _ => true
  | some p, v => Op.bytesLess p v
def setFrom : Option (List UInt8) → List (List UInt8) → Bool
  | _, [] => true
  | o, v :: r => valueL v && (lessO o v && setFrom (some v) r)
def setL (s : List (List UInt8)) : Bool := (decide (1 ≤ s.length) && decide (s.length ≤ 8)) && setFrom none s
def prevO (s : List (List UInt8)) (i : Nat) : Option (List UInt8) := if h : 0 < i ∧ i - 1 < s.length then some (s[i - 1]'h.2) else none
theorem prevO_zero (s : List (List UInt8)) : prevO s 0 = none := by unfold prevO; rw [dif_neg (by omega)]
theorem prevO_succ {s : List (List UInt8)} {i : Nat} (h : i < s.length) : prevO s (i + 1) = some s[i] := by unfold prevO; rw [dif_pos ⟨by omega, by simpa using h⟩]; simp
theorem setFrom_at {o : Option (List UInt8)} {s : List (List UInt8)} {i : Nat} (h : i < s.length) : setFrom o (s.drop i) = (valueL s[i] && (lessO o s[i] && setFrom (some s[i]) (s.drop (i + 1)))) := by
  rw [List.drop_eq_getElem_cons h]; cases o <;> rfl
theorem setFrom_end (o : Option (List UInt8)) (s : List (List UInt8)) : setFrom o (s.drop s.length) = true := by rw [List.drop_length]; cases o <;> rfl
def chkL (m : Mat) : Bool := nameL m.2.1 && (if m.1 = 3 then (m.2.2.1 == []) && setL m.2.2.2 else if 0 ≤ m.1 ∧ m.1 ≤ 3 then valueL m.2.2.1 && decide (m.2.2.2.length = 0) else false)
def eM (b : Bool) : Int := if b then 0 else 50
theorem setFrom_mem {o : Option (List UInt8)} {s : List (List UInt8)} (h : setFrom o s = true) : ∀ x ∈ s, valueL x = true := by
  induction s generalizing o with
  | nil => intro x hx; simp at hx
  | cons y r ih =>
    have h' : (valueL y && (lessO o y && setFrom (some y) r)) = true := by cases o <;> exact h
    simp only [Bool.and_eq_true] at h'
    intro x hx
    rcases List.mem_cons.1 hx with rfl | hx
    · exact h'.1
    · exact ih h'.2.2 x hx
/-- Nothing of it is long. -/
def smallM (m : Mat) : Prop := m.2.1.length ≤ 16384 ∧ m.2.2.1.length ≤ 16384 ∧ m.2.2.2.length ≤ 16384 ∧ ∀ x ∈ m.2.2.2, x.length ≤ 16384
end Go.Proofs.YtdbifbgjbfnfmaaGreatDoor
/-
  Layer 5 (match): what the document's Check returns; all that was in memory stays.
-/
namespace Go.Proofs.YtdbifbgjbfnfmaaGreatDoor
open Go.RowKit Go.Deep
attribute [local go_sem] str_size str_append str_toList str_get str_extract
set_option linter.unusedVariables false
set_option linter.unusedSimpArgs false
end Go.Proofs.YtdbifbgjbfnfmaaGreatDoor
/-
  Layer 6 (post): lists that rise, as sets. Plain; it names no program.
-/
namespace Go.Proofs.YtdbifbgjbfnfmaaGreatDoor
set_option linter.unusedVariables false
set_option linter.unusedSimpArgs false

/-- Each is above the one ahead. -/
abbrev Up (l : List Int) : Prop := l.Pairwise (· < ·)
/-- Two lists that are taken from the front, the lowest one first; f tells which are kept. -/
def mergeL (f : Bool → Bool → Bool) : List Int → List Int → List Int
  | [], [] => []
  | x :: a, [] => (if f true false = true then [x] else []) ++ mergeL f a []
  | [], y :: b => (if f false true = true then [y] else []) ++ mergeL f [] b
  | x :: a, y :: b =>
    if x < y then (if f true false = true then [x] else []) ++ mergeL f a (y :: b)
    else if y < x then (if f false true = true then [y] else []) ++ mergeL f (x :: a) b
    else (if f true true = true then [x] else []) ++ mergeL f a b
termination_by a b => a.length + b.length
/-- Where the lowest one stands. -/
def inA : List Int → List Int → Bool
  | [], _ => false
  | _ :: _, [] => true
  | x :: _, y :: _ => decide (x ≤ y)
def inB : List Int → List Int → Bool
  | _, [] => false
  | [], _ :: _ => true
  | x :: _, y :: _ => decide (y ≤ x)
theorem in_some {a b : List Int} (h : a ≠ [] ∨ b ≠ []) : inA a b = true ∨ inB a b = true := by
  match a, b with
  | [], [] => simp at h
  | x :: a, [] => exact .inl rfl
  | [], y :: b => exact .inr rfl
  | x :: a, y :: b => simp only [inA, inB, decide_eq_true_eq]; omega
theorem inA_cons {a b : List Int} (h : inA a b = true) : ∃ n r, a = n :: r := by
  match a with
  | [] => simp [inA] at h
  | x :: a => exact ⟨x, a, rfl⟩
theorem inB_cons {a b : List Int} (h : inB a b = true) : ∃ n r, b = n :: r := by
  match a, b with
  | _, [] => simp [inB] at h
  | _, y :: b => exact ⟨y, b, rfl⟩
theorem merge_a (f : Bool → Bool → Bool) {x : Int} {a b : List Int} (h1 : inA (x :: a) b = true) (h2 : inB (x :: a) b = false) : mergeL f (x :: a) b = (if f true false = true then [x] else []) ++ mergeL f a b := by
  match b with
  | [] => rw [mergeL]
  | y :: b =>
    simp only [inA, inB, decide_eq_true_eq, decide_eq_false_iff_not] at h1 h2
    rw [mergeL, if_pos (show x < y by omega)]
theorem merge_b (f : Bool → Bool → Bool) {y : Int} {a b : List Int} (h1 : inA a (y :: b) = false) (h2 : inB a (y :: b) = true) : mergeL f a (y :: b) = (if f false true = true then [y] else []) ++ mergeL f a b := by
  match a with
  | [] => rw [mergeL]
  | x :: a =>
    simp only [inA, inB, decide_eq_true_eq, decide_eq_false_iff_not] at h1 h2
    rw [mergeL, if_neg (show ¬ x < y by omega), if_pos (show y < x by omega)]
theorem merge_ab (f : Bool → Bool → Bool) {x y : Int} {a b : List Int} (h1 : inA (x :: a) (y :: b) = true) (h2 : inB (x :: a) (y :: b) = true) : x = y ∧ mergeL f (x :: a) (y :: b) = (if f true true = true then [y] else []) ++ mergeL f a b := by
  simp only [inA, inB, decide_eq_true_eq] at h1 h2
  obtain rfl : x = y := by omega
  exact ⟨rfl, by rw [mergeL, if_neg (show ¬ x < x by omega), if_neg (show ¬ x < x by omega)]⟩
theorem merge_nil (f : Bool → Bool → Bool) : mergeL f [] [] = [] := by rw [mergeL]
theorem mem_kept {p : Bool} {x n : Int} : x ∈ (if p = true then [n] else []) ↔ p = true ∧ x = n := by cases p <;> simp
theorem mem_merge_some (f : Bool → Bool → Bool) (a b : List Int) : ∀ x, x ∈ mergeL f a b → x ∈ a ∨ x ∈ b := by
  induction a, b using mergeL.induct with
  | case1 => intro x h; simp [merge_nil] at h
  | case2 y a ih => intro x h; rw [mergeL, List.mem_append, mem_kept] at h; have := ih x; simp at this ⊢; rcases h with h | h <;> simp_all
  | case3 y b ih => intro x h; rw [mergeL, List.mem_append, mem_kept] at h; have := ih x; simp at this ⊢; rcases h with h | h <;> simp_all
  | case4 y a z b h1 ih => intro x h; rw [mergeL, if_pos h1, List.mem_append, mem_kept] at h; have := ih x; simp only [List.mem_cons] at this ⊢; grind
  | case5 y a z b h1 h2 ih => intro x h; rw [mergeL, if_neg h1, if_pos h2, List.mem_append, mem_kept] at h; have := ih x; simp only [List.mem_cons] at this ⊢; grind
  | case6 y a z b h1 h2 ih => intro x h; rw [mergeL, if_neg h1, if_neg h2, List.mem_append, mem_kept] at h; have := ih x; simp only [List.mem_cons] at this ⊢; grind
theorem len_merge (f : Bool → Bool → Bool) (a b : List Int) : (mergeL f a b).length ≤ a.length + b.length := by
  have hk : ∀ (p : Bool) (n : Int), (if p = true then [n] else []).length ≤ 1 := by intro p n; cases p <;> simp
  induction a, b using mergeL.induct with
  | case1 => simp [merge_nil]
  | case2 y a ih => rw [mergeL, List.length_append]; have := hk (f true false) y; simp at ih ⊢; omega
  | case3 y b ih => rw [mergeL, List.length_append]; have := hk (f false true) y; simp at ih ⊢; omega
  | case4 y a z b h1 ih => rw [mergeL, if_pos h1, List.length_append]; have := hk (f true false) y; simp at ih ⊢; omega
  | case5 y a z b h1 h2 ih => rw [mergeL, if_neg h1, if_pos h2, List.length_append]; have := hk (f false true) z; simp at ih ⊢; omega
  | case6 y a z b h1 h2 ih => rw [mergeL, if_neg h1, if_neg h2, List.length_append]; have := hk (f true true) y; simp at ih ⊢; omega
theorem up_kept {p : Bool} {n : Int} {l : List Int} (h : ∀ x ∈ l, n < x) (hl : Up l) : Up ((if p = true then [n] else []) ++ l) := by
  cases p
  · simpa using hl
  · simpa using ⟨h, hl⟩
theorem up_merge (f : Bool → Bool → Bool) (a b : List Int) : Up a → Up b → Up (mergeL f a b) := by
  induction a, b using mergeL.induct with
  | case1 => intro _ _; simp [merge_nil]
  | case2 y a ih =>
    intro ha hb; rw [mergeL]
    rw [Up, List.pairwise_cons] at ha
    exact up_kept (fun x hx => by rcases mem_merge_some f _ _ x hx with h | h; exact ha.1 x h; simp at h) (ih ha.2 hb)
  | case3 y b ih =>
    intro ha hb; rw [mergeL]
    rw [Up, List.pairwise_cons] at hb
    exact up_kept (fun x hx => by rcases mem_merge_some f _ _ x hx with h | h; simp at h; exact hb.1 x h) (ih ha hb.2)
  | case4 y a z b h1 ih =>
    intro ha hb; rw [mergeL, if_pos h1]
    rw [Up, List.pairwise_cons] at ha
    have hb2 := hb
    rw [Up, List.pairwise_cons] at hb2
    refine up_kept (fun x hx => ?_) (ih ha.2 hb)
    rcases mem_merge_some f _ _ x hx with h | h
    · exact ha.1 x h
    · rcases List.mem_cons.1 h with rfl | h
      · exact h1
      · exact Int.lt_trans h1 (hb2.1 x h)
  | case5 y a z b h1 h2 ih =>
    intro ha hb; rw [mergeL, if_neg h1, if_pos h2]
    rw [Up, List.pairwise_cons] at hb
    have ha2 := ha
    rw [Up, List.pairwise_cons] at ha2
    refine up_kept (fun x hx => ?_) (ih ha hb.2)
    rcases mem_merge_some f _ _ x hx with h | h
    · rcases List.mem_cons.1 h with rfl | h
      · exact h2
      · exact Int.lt_trans h2 (ha2.1 x h)
    · exact hb.1 x h
  | case6 y a z b h1 h2 ih =>
    intro ha hb; rw [mergeL, if_neg h1, if_neg h2]
    obtain rfl : y = z := by omega
    rw [Up, List.pairwise_cons] at ha hb
    refine up_kept (fun x hx => ?_) (ih ha.2 hb.2)
    rcases mem_merge_some f _ _ x hx with h | h
    · exact ha.1 x h
    · exact hb.1 x h
theorem not_mem_low {n : Int} {l : List Int} (h : ∀ x ∈ l, n < x) : n ∉ l := fun hm => by have := h n hm; omega
theorem mem_merge (f : Bool → Bool → Bool) (a b : List Int) : Up a → Up b → ∀ x, x ∈ mergeL f a b ↔ (x ∈ a ∨ x ∈ b) ∧ f (decide (x ∈ a)) (decide (x ∈ b)) = true := by
  induction a, b using mergeL.induct with
  | case1 => intro _ _ x; simp [merge_nil]
  | case2 y a ih =>
    intro ha hb x; rw [mergeL, List.mem_append, mem_kept]
    rw [Up, List.pairwise_cons] at ha
    rw [ih ha.2 hb]
    have := not_mem_low ha.1
    by_cases e : x = y
    · subst e; simp [this]
    · simp [e]
  | case3 y b ih =>
    intro ha hb x; rw [mergeL, List.mem_append, mem_kept]
    rw [Up, List.pairwise_cons] at hb
    rw [ih ha hb.2]
    have := not_mem_low hb.1
    by_cases e : x = y
    · subst e; simp [this]
    · simp [e]
  | case4 y a z b h1 ih =>
    intro ha hb x; rw [mergeL, if_pos h1, List.mem_append, mem_kept]
    rw [Up, List.pairwise_cons] at ha
    rw [ih ha.2 hb]
    rw [Up, List.pairwise_cons] at hb
    have hn := not_mem_low ha.1
    by_cases e : x = y
    · subst e
      have h3 : x ∉ b := fun hm => by have := hb.1 x hm; omega
      have h4 : x ≠ z := by omega
      simp [hn, h3, h4]
    · simp [e]
  | case5 y a z b h1 h2 ih =>
    intro ha hb x; rw [mergeL, if_neg h1, if_pos h2, List.mem_append, mem_kept]
    rw [Up, List.pairwise_cons] at hb
    rw [ih ha hb.2]
    rw [Up, List.pairwise_cons] at ha
    have hn := not_mem_low hb.1
    by_cases e : x = z
    · subst e
      have h3 : x ∉ a := fun hm => by have := ha.1 x hm; omega
      have h4 : x ≠ y := by omega
      simp [hn, h3, h4]
    · simp [e]
  | case6 y a z b h1 h2 ih =>
    intro ha hb x; rw [mergeL, if_neg h1, if_neg h2, List.mem_append, mem_kept]
    obtain rfl : y = z := by omega
    rw [Up, List.pairwise_cons] at ha hb
    rw [ih ha.2 hb.2]
    have h3 := not_mem_low ha.1
    have h4 := not_mem_low hb.1
    by_cases e : x = y
    · subst e; simp [h3, h4]
    · simp [e]
/-- Lists that rise and hold the same are the same. -/
theorem up_ext : ∀ {a b : List Int}, Up a → Up b → (∀ x, x ∈ a ↔ x ∈ b) → a = b := by
  intro a
  induction a with
  | nil => intro b _ _ h; match b with
    | [] => rfl
    | y :: b => have := (h y).2 (by simp); simp at this
  | cons x a ih =>
    intro b ha hb h
    match b with
    | [] => have := (h x).1 (by simp); simp at this
    | y :: b =>
      rw [Up, List.pairwise_cons] at ha hb
      have hxy : x = y := by
        have h1 := (h x).1 (by simp)
        have h2 := (h y).2 (by simp)
        rcases List.mem_cons.1 h1 with e | h1
        · exact e
        · rcases List.mem_cons.1 h2 with e | h2
          · exact e.symm
          · have := hb.1 x h1; have := ha.1 y h2; omega
      subst hxy
      rw [ih ha.2 hb.2 fun z => ?_]
      have h0 := h z
      have h3 := not_mem_low ha.1
      have h4 := not_mem_low hb.1
      by_cases e : z = x
      · subst e; simp [h3, h4]
      · simpa [e] using h0
/-! the three -/
def fAnd (p q : Bool) : Bool := p && q
def fOr (p q : Bool) : Bool := p || q
def fNot (p q : Bool) : Bool := p && !q
theorem mem_and {a b : List Int} (ha : Up a) (hb : Up b) (x : Int) : x ∈ mergeL fAnd a b ↔ x ∈ a ∧ x ∈ b := by
  rw [mem_merge _ _ _ ha hb]; simp only [fAnd, Bool.and_eq_true, decide_eq_true_eq]; exact ⟨fun h => h.2, fun h => ⟨.inl h.1, h⟩⟩
theorem mem_or {a b : List Int} (ha : Up a) (hb : Up b) (x : Int) : x ∈ mergeL fOr a b ↔ x ∈ a ∨ x ∈ b := by
  rw [mem_merge _ _ _ ha hb]; simp only [fOr, Bool.or_eq_true, decide_eq_true_eq]; exact ⟨fun h => h.2, fun h => ⟨h, h⟩⟩
theorem mem_not {a b : List Int} (ha : Up a) (hb : Up b) (x : Int) : x ∈ mergeL fNot a b ↔ x ∈ a ∧ x ∉ b := by
  rw [mem_merge _ _ _ ha hb]; simp only [fNot, Bool.and_eq_true, Bool.not_eq_true', decide_eq_true_eq, decide_eq_false_iff_not]; exact ⟨fun h => h.2, fun h => ⟨.inl h.1, h⟩⟩
/-! the document's -/
def andL (a b : List Int) : List Int := a.filter (fun x => decide (x ∈ b))
def notL (a b : List Int) : List Int := a.filter (fun x => !decide (x ∈ b))
theorem up_filter {a : List Int} (p : Int → Bool) (h : Up a) : Up (a.filter p) := h.sublist List.filter_sublist
theorem and_eq {a b : List Int} (ha : Up a) (hb : Up b) : mergeL fAnd a b = andL a b :=
  up_ext (up_merge _ _ _ ha hb) (up_filter _ ha) fun x => by rw [mem_and ha hb]; simp [andL]
theorem not_eq {a b : List Int} (ha : Up a) (hb : Up b) : mergeL fNot a b = notL a b :=
  up_ext (up_merge _ _ _ ha hb) (up_filter _ ha) fun x => by rw [mem_not ha hb]; simp [notL]
/-! rising ones of a list -/
def stepR (out : List Int) (x : Int) : List Int := match out.getLast? with
  | none => [x]
  | some y => if y < x then out ++ [x] else out
def risL (l : List Int) : List Int := (l.take 200).foldl stepR []
theorem up_snoc {l : List Int} {x : Int} (h : Up l) (hx : ∀ y ∈ l, y < x) : Up (l ++ [x]) := by
  rw [Up, List.pairwise_append]; exact ⟨h, by simp, fun a ha b hb => by simp at hb; subst hb; exact hx a ha⟩
theorem up_last {l : List Int} {y : Int} (h : Up l) (hy : l.getLast? = some y) : ∀ x ∈ l, x ≤ y := by
  obtain ⟨m, rfl⟩ := List.getLast?_eq_some_iff.1 hy
  rw [Up, List.pairwise_append] at h
  intro x hx
  rcases List.mem_append.1 hx with hx | hx
  · have := h.2.2 x hx y (by simp); omega
  · simp at hx; omega
theorem up_stepR {out : List Int} {x : Int} (h : Up out) : Up (stepR out x) := by
  unfold stepR
  split
  · simp
  · rename_i y hy
    split
    · exact up_snoc h fun z hz => by have := up_last h hy z hz; omega
    · exact h
theorem mem_stepR {out : List Int} {x : Int} : ∀ y ∈ stepR out x, y ∈ out ∨ y = x := by
  intro y h
  unfold stepR at h
  split at h
  · simp at h; exact .inr h
  · split at h
    · simpa using h
    · exact .inl h
theorem len_stepR (out : List Int) (x : Int) : (stepR out x).length ≤ out.length + 1 := by
  unfold stepR
  split
  · simp
  · split <;> simp
theorem up_foldR (l : List Int) : ∀ out, Up out → Up (l.foldl stepR out) := by
  induction l with
  | nil => intro out h; exact h
  | cons x l ih => intro out h; exact ih _ (up_stepR h)
theorem mem_foldR (l : List Int) : ∀ out, ∀ y ∈ l.foldl stepR out, y ∈ out ∨ y ∈ l := by
  induction l with
  | nil => intro out y h; exact .inl h
  | cons x l ih =>
    intro out y h
    rcases ih _ y h with h | h
    · rcases mem_stepR y h with h | h
      · exact .inl h
      · subst h; exact .inr (by simp)
    · exact .inr (by simp [h])
theorem len_foldR (l : List Int) : ∀ out, (l.foldl stepR out).length ≤ out.length + l.length := by
  induction l with
  | nil => intro out; simp
  | cons x l ih => intro out; have := ih (stepR out x); have := len_stepR out x; simp at *; omega
theorem up_risL (l : List Int) : Up (risL l) := up_foldR _ _ (by simp)
theorem mem_risL (l : List Int) : ∀ y ∈ risL l, y ∈ l := fun y h => by
  rcases mem_foldR _ _ y h with h | h
  · simp at h
  · exact List.mem_of_mem_take h
theorem len_risL (l : List Int) : (risL l).length ≤ 200 := by
  have := len_foldR (l.take 200) []
  rw [List.length_take] at this
  simp at this; unfold risL; omega
theorem fold_take (l : List Int) (i : Nat) (h : i < l.length) : (l.take (i + 1)).foldl stepR [] = stepR ((l.take i).foldl stepR []) l[i] := by
  rw [List.take_succ_eq_append_getElem h, List.foldl_append]; rfl
/-! whether a list rises -/
theorem up_take (l : List Int) (i : Nat) (h : i + 1 < l.length) : Up (l.take (i + 2)) ↔ Up (l.take (i + 1)) ∧ l[i]'(by omega) < l[i + 1] := by
  rw [List.take_succ_eq_append_getElem h]
  constructor
  · intro hu
    rw [Up, List.pairwise_append] at hu
    refine ⟨hu.1, hu.2.2 _ ?_ _ (by simp)⟩
    rw [List.take_succ_eq_append_getElem (show i < l.length by omega)]; exact List.mem_append_right _ (by simp)
  · intro ⟨hu, hx⟩
    refine up_snoc hu fun y hy => ?_
    have hl : (l.take (i + 1)).getLast? = some (l[i]'(by omega)) := by
      rw [List.take_succ_eq_append_getElem (show i < l.length by omega)]; exact List.getLast?_concat
    have := up_last hu hl y hy
    omega
/-! union of lists -/
theorem unionL_mem (L : List (List Int)) : ∀ acc : List Int, Up acc → (∀ l ∈ L, Up l) → Up (L.foldl (mergeL fOr) acc) ∧ ∀ x, x ∈ L.foldl (mergeL fOr) acc ↔ x ∈ acc ∨ ∃ l ∈ L, x ∈ l := by
  induction L with
  | nil => intro acc h _; exact ⟨h, fun x => by simp⟩
  | cons m L ih =>
    intro acc h hL
    have hm := hL m (by simp)
    have := ih (mergeL fOr acc m) (up_merge _ _ _ h hm) (fun l hl => hL l (by simp [hl]))
    refine ⟨this.1, fun x => ?_⟩
    rw [List.foldl_cons, this.2, mem_or h hm]
    simp only [List.mem_cons, exists_eq_or_imp, or_assoc]
end Go.Proofs.YtdbifbgjbfnfmaaGreatDoor
/-
  Layer 6 (post): a slice of integers in memory; the functions that only read one.
-/
namespace Go.Proofs.YtdbifbgjbfnfmaaGreatDoor
open Go.RowKit Go.Deep
set_option linter.unusedVariables false
set_option linter.unusedSimpArgs false

/-- A slice of integers that was there. -/
def IAt (w : World) (A : Option Addr) (len cap : Nat) (l : List Int) : Prop :=
  len = l.length ∧ len ≤ cap ∧ ∀ i (h : i < l.length), (-9223372036854775808 ≤ l[i] ∧ l[i] ≤ 9223372036854775807) ∧
    ∃ ad, A = some ad ∧ (ad.add i).block < w.heap.size ∧ w.cell? (ad.add i) = some (.int .i64 l[i])
theorem IAt.below {w w' : World} {A : Option Addr} {len cap : Nat} {l : List Int} (h : IAt w A len cap l) (hb : Below w.heap.size w w') : IAt w' A len cap l :=
  ⟨h.1, h.2.1, fun i hi => by
    obtain ⟨h1, ad, rfl, h2, h3⟩ := h.2.2 i hi
    exact ⟨h1, ad, rfl, Nat.lt_of_lt_of_le h2 hb.size, (hb.cell (p := ad.add i) h2).trans h3⟩⟩
theorem IAt.nil (w : World) (A : Option Addr) (cap : Nat) : IAt w A 0 cap [] := ⟨rfl, Nat.zero_le _, fun i h => by simp at h⟩
theorem IAt.drewN {w : World} {A : Option Addr} {len cap : Nat} {l : List Int} (h : IAt w A len cap l) (n : Nat) : IAt (w.drewN n) A len cap l := h
theorem add_succ (a : Addr) (i : Nat) : a.add (i + 1) = ⟨a.block, a.off + (i + 1), none⟩ := rfl
/-- What is left of it behind its first one. -/
theorem IAt.tail {w : World} {ad : Addr} {n cap : Nat} {x : Int} {l : List Int} (h : IAt w (some ad) (n + 1) (cap + 1) (x :: l)) : IAt w (some (ad.add 1)) n cap l := by
  refine ⟨by have := h.1; simp at this; omega, by have := h.2.1; omega, fun i hi => ?_⟩
  obtain ⟨h1, ad', e, h2, h3⟩ := h.2.2 (i + 1) (by simp; omega)
  injection e with e
  subst e
  have ea : (ad.add 1).add i = ad.add (i + 1) := by
    cases i with
    | zero => rfl
    | succ i => simp [Addr.add]; omega
  refine ⟨by simpa using h1, _, rfl, ?_, ?_⟩
  · rw [ea]; exact h2
  · rw [ea]; simpa using h3
/-! a row of the call's own -/
def intC (l : List Int) : List Value := l.map (.int .i64)
theorem intC_append (l m : List Int) : intC (l ++ m) = intC l ++ intC m := by simp [intC]
structure NewI (B : Nat) (v : Value) (l : List Int) (w : World) : Prop where
  own : w.ownsRow B 3 1 v l.length (intC l)
  rng : ∀ x ∈ l, -9223372036854775808 ≤ x ∧ x ≤ 9223372036854775807
theorem NewI.alloc {B : Nat} {v : Value} {l : List Int} {w : World} (h : NewI B v l w) (o : Obj) : NewI B v l (w.alloc o) := ⟨h.own.alloc o, h.rng⟩
theorem NewI.keeps {B : Nat} {v : Value} {l : List Int} {F : List Nat} {w w' : World} (h : NewI B v l w) (hk : Keeps F w w') (hF : ∀ k, v.ownBlock = some k → k ∉ F) : NewI B v l w' := ⟨hk.row h.own hF, h.rng⟩
theorem NewI.below {B : Nat} {v : Value} {l : List Int} {w w' : World} (h : NewI B v l w) (hb : Below w.heap.size w w') : NewI B v l w' := h.keeps (F := []) (Keeps.below hb) (by simp)
theorem NewI.mono {B B' : Nat} {v : Value} {l : List Int} {w : World} (h : NewI B v l w) (hb : B' ≤ B) : NewI B' v l w := ⟨h.own.mono hb, h.rng⟩
theorem NewI.drewN {B : Nat} {v : Value} {l : List Int} {w : World} (h : NewI B v l w) (n : Nat) : NewI B v l (w.drewN n) := ⟨h.own, h.rng⟩
theorem NewI.nil (B : Nat) (w : World) : NewI B (.slice none 0 0) [] w := ⟨⟨rfl, .inl ⟨rfl, rfl⟩⟩, by simp⟩
/-- Its shape, and what it is to others. -/
theorem NewI.at {B : Nat} {v : Value} {l : List Int} {w : World} (h : NewI B v l w) : ∃ A cap, v = .slice A l.length cap ∧ IAt w A l.length cap l := by
  rcases h.own.2 with ⟨e, h0⟩ | ⟨g, c, cur, e, hg, hb, hc, _⟩
  · have : l = [] := List.length_eq_zero_iff.1 h0
    subst this
    exact ⟨none, 0, e, IAt.nil _ _ _⟩
  · refine ⟨_, _, e, rfl, hc, fun i hi => ⟨h.rng _ (List.getElem_mem hi), _, rfl, ?_, ?_⟩⟩
    · show ((⟨g, 0, none⟩ : Addr).add i).block < _
      have : ((⟨g, 0, none⟩ : Addr).add i).block = g := by unfold Addr.add; split <;> rfl
      rw [this]; exact lt_of_block hb
    · subst e
      have := h.own.cells (g := g) rfl i (.int .i64 l[i]) (by simp [intC, hi])
      exact this
theorem int_info : (Tryz.prog.info? 3).map (fun i => (i.zero, i.size, i.bytes)) = some (some (.int .i64 0), 1, 8) := by kernel_rfl
theorem IAt.congr {w : World} {A : Option Addr} {len cap : Nat} {l m : List Int} (h : IAt w A len cap l) (e : l = m) : IAt w A len cap m := e ▸ h
end Go.Proofs.YtdbifbgjbfnfmaaGreatDoor
/-
  Layer 6 (post): an integer behind a row of the call's own; rising ones of a list; the document's And and Not.
-/
namespace Go.Proofs.YtdbifbgjbfnfmaaGreatDoor
open Go.RowKit Go.Deep
set_option linter.unusedVariables false
set_option linter.unusedSimpArgs false

theorem app_one {ops : Array Oper} {rest : List Oper} {o : Oper} {a : Act} {Q : Exit → Act → World → Prop} {w w0 : World} (hgd : o.guard = none) (s x : Operand)
    (ho : o.op = .call { callee := .builtin .append, args := #[s, x], argTypes := #[32, 32] })
    {B : Nat} {v : Value} {l : List Int} (hs : a.eval s = v) (hN : NewI B v l w0) (n : Int) (hx : a.eval x = .slice (some ⟨w0.heap.size, 0, none⟩) 1 1) (hw : w = w0.alloc (.cells #[.int .i64 n] 3))
    (h1 : -9223372036854775808 ≤ n) (h2 : n ≤ 9223372036854775807) (hlen : l.length ≤ 100000) (hB : B ≤ w0.heap.size)
    (h : ∀ A cap w' L, Hid (L = l ++ [n]) → NewI B (.slice A L.length cap) L w' → Below B w0 w' → wpList Tryz.prog ops Q rest (a.put o.dst (.slice A L.length cap)) w') :
    wpList Tryz.prog ops Q (o :: rest) a w := by
  obtain ⟨i0, hi0, hz0, hz1, hz2⟩ := info_parts int_info
  subst hw
  refine wpList_append_own_at _ hgd s x 32 ho B 3 i0 (.int .i64 0) 1 8 Tryz.underlying32 hi0 hz0 hz1 hz2 rfl (by decide) v l.length _ hs (hN.own.alloc _) ⟨w0.heap.size, 0, none⟩ 1 1 [.int .i64 n] hx rfl (cell_one_new _ _ _) ?_ (by unfold maxLen; omega) (by omega) (by simp; omega) ?_
  · intro u hu; simp at hu; subst hu; rfl
  · intro v' w' hown hg _ _
    obtain ⟨A, cap, rfl⟩ := row_slice hown
    have e : (l ++ [n]).length = l.length + 1 := by simp
    rw [← e] at hown ⊢
    refine h A cap w' (l ++ [n]) rfl ⟨?_, ?_⟩ ?_
    · rw [intC_append]; exact hown
    · intro y hy
      rcases List.mem_append.1 hy with hy | hy
      · exact hN.rng y hy
      · simp at hy; subst hy; exact ⟨h1, h2⟩
    · exact (((Below.refl B w0).alloc hB _).grown hg (by simp; omega) (fun k hk => (hN.own.lt k hk).1))
theorem NewI.empty (w : World) (B : Nat) (hB : B ≤ w.heap.size) : NewI B (.slice (some ⟨w.heap.size, 0, none⟩) 0 0) [] (w.alloc (.cells #[] 3)) :=
  ⟨(World.ownsRow_made w #[] 0 (Nat.le_refl _) (by unfold maxLen; omega) rfl).mono hB, by simp⟩
theorem IAt.last {w : World} {A : Option Addr} {n cap : Nat} {l : List Int} (h : IAt w A n cap l) (hl : l ≠ []) :
    ∃ ad m y, A = some ad ∧ l.length = m + 1 ∧ (ad.add m).block < w.heap.size ∧ w.cell? (ad.add m) = some (.int .i64 y) ∧ l.getLast? = some y ∧ -9223372036854775808 ≤ y ∧ y ≤ 9223372036854775807 := by
  have hp := List.length_pos_iff.2 hl
  obtain ⟨⟨r1, r2⟩, ad, rfl, h1, h2⟩ := h.2.2 (l.length - 1) (by omega)
  exact ⟨ad, l.length - 1, _, rfl, by omega, h1, h2, by rw [List.getLast?_eq_getElem?, List.getElem?_eq_getElem], r1, r2⟩
end Go.Proofs.YtdbifbgjbfnfmaaGreatDoor
/-
  Layer 7 (index): the document's Select.
-/
namespace Go.Proofs.YtdbifbgjbfnfmaaGreatDoor
open Go.RowKit Go.Deep
attribute [local go_sem] str_size str_append str_toList str_get str_extract
set_option linter.unusedVariables false
set_option linter.unusedSimpArgs false
/-- Whom matchers mean. -/
def meant (X : Ix) (ms : List Mat) (i : Nat) : Bool := allL ms ((X[i]?).getD [])
def selN (X : Ix) (ms : List Mat) (n : Nat) : List Int := ((List.range n).filter (meant X ms)).map Int.ofNat
def chkAll (ms : List Mat) : Bool := ms.all chkL
def selX (X : Ix) (ms : List Mat) : List Int := if chkAll ms = true then selN X ms X.length else []
theorem meant_at {X : Ix} {ms : List Mat} {i : Nat} (h : i < X.length) : meant X ms i = allL ms X[i] := by unfold meant; simp [h]
theorem selN_next (X : Ix) (ms : List Mat) (n : Nat) : selN X ms (n + 1) = selN X ms n ++ if meant X ms n = true then [(n : Int)] else [] := by
  unfold selN
  rw [List.range_succ, List.filter_append, List.map_append]
  cases h : meant X ms n <;> simp [h]
theorem selN_len (X : Ix) (ms : List Mat) (n : Nat) : (selN X ms n).length ≤ n := by
  unfold selN; rw [List.length_map]; exact Nat.le_trans (List.length_filter_le _ _) (by simp)
theorem selN_mem {X : Ix} {ms : List Mat} {n : Nat} {x : Int} : x ∈ selN X ms n ↔ ∃ i : Nat, i < n ∧ x = i ∧ meant X ms i = true := by
  unfold selN
  simp only [List.mem_map, List.mem_filter, List.mem_range]
  constructor
  · rintro ⟨i, ⟨h1, h2⟩, rfl⟩; exact ⟨i, h1, rfl, h2⟩
  · rintro ⟨i, h1, rfl, h2⟩; exact ⟨i, ⟨h1, h2⟩, rfl⟩
theorem selN_up (X : Ix) (ms : List Mat) (n : Nat) : Up (selN X ms n) := by
  induction n with
  | zero => simp [selN]
  | succ n ih =>
    rw [selN_next]
    split
    · exact up_snoc ih fun y hy => by obtain ⟨i, h1, rfl, _⟩ := selN_mem.1 hy; omega
    · simpa using ih
theorem smallM_of {m : Mat} (h : SmallM m) : smallM m := ⟨by have := h.1; omega, by have := h.2.1; omega, by have := h.2.2.1; omega, fun x hx => by have := h.2.2.2 x hx; omega⟩
/-- What a call that selects answers. -/
def GivesI (R : List Int) (E : Int) (e : Ending) (w' : World) : Prop := ∃ A1 c1, e = .returned (.tuple #[.slice A1 R.length c1, .int .i64 E]) ∧ NewI 0 (.slice A1 R.length c1) R w'
end Go.Proofs.YtdbifbgjbfnfmaaGreatDoor
