/-
  Layer 4 (label): what the program's Sort returns; all that was in memory stays.
-/
import Derived.Test.YtopnnhjfcfhihaaLabelStab
import Derived.Test.YtopnnhjfcfhihaaLabelG
namespace Go.Proofs.Ytopnnhjfcfhihaa
open Go.RowKit Go.Deep
attribute [local go_sem] str_size str_append str_toList str_get str_extract
set_option linter.unusedVariables false
set_option linter.unusedSimpArgs false
theorem ownLtS {w : World} {base : Nat} {e : TypeId} {size : Nat} {v : Value} {n : Nat} {xs : List Value} (h : w.ownsRow base e size v n xs) : ∀ k, v.ownBlock = some k → k < w.heap.size := by
  intro k hk
  rcases h.2 with ⟨rfl, _⟩ | ⟨g, c, cur, rfl, _, hg, _⟩
  · simp [Value.ownBlock] at hk
  · simp [Value.ownBlock] at hk
    subst hk
    exact lt_of_block hg
theorem labC_take {l : List Lab} {i : Nat} (h : i < l.length) {x : Lab} (hx : l[i]'h = x) : labC (l.take (i + 1)) = labC (l.take i) ++ [.string (str x.1), .string (str x.2)] := by
  rw [List.take_succ_eq_append_getElem h, labC_append, hx]; rfl
/-- A row of the call's own, as block and labels. -/
theorem own_rowL {B g : Nat} {n cap : Nat} {l : List Lab} {w : World} (h : w.ownsRow B 39 2 (.slice (some ⟨g, 0, none⟩) n cap) n (labC l)) (hn : n = l.length) : RowL g l w ∧ B ≤ g ∧ n ≤ cap := by
  rcases h.2 with ⟨e, _⟩ | ⟨g', c, cur, e, hB, hg, h1, h2, h3, h4⟩
  · cases e
  · injection e with e1 e2 e3
    injection e1 with e1
    injection e1 with e1
    subst e1 e3
    have hlen : (labC l).length = 2 * l.length := labC_length l
    have hat := fun i (hi : i < l.length) => labC_get l i hi
    refine ⟨⟨cur, hg, by omega, fun i hi => ?_⟩, hB, h1⟩
    have hc := hat i hi
    rw [← h4] at hc
    simp only [List.getElem?_take, Array.getElem?_toList] at hc
    rw [if_pos (by omega), if_pos (by omega)] at hc
    exact hc
theorem rowL_lat {g : Nat} {l : List Lab} {w : World} (h : RowL g l w) (hs : ∀ x ∈ l, x.1.length ≤ 9223372036854775807 ∧ x.2.length ≤ 9223372036854775807) : LAt w (some ⟨g, 0, none⟩) l.length l := by
  obtain ⟨cur, h1, h2, h3⟩ := h
  refine ⟨rfl, fun i hi => ⟨hs _ (List.getElem_mem hi), _, rfl, ?_⟩⟩
  have ea : (⟨g, 0, none⟩ : Addr).add (i * 2) = ⟨g, 2 * i, none⟩ := by
    unfold Addr.add
    split <;> simp_all <;> omega
  rw [ea]
  exact ⟨lt_of_block h1, (blk_cell h1 _).trans (h3 i hi).1, (blk_cell h1 _).trans (h3 i hi).2⟩
set_option maxHeartbeats 1000000 in
theorem sort_c (A : Option Addr) (len cap : Nat) (l : List Lab) (w : World) (hl : l.length ≤ 4096) (hA : LAt w A len l) (hz : ∀ x ∈ l, x.1.length ≤ 4096 ∧ x.2.length ≤ 4096) :
    Calls Try.prog 8 #[.slice A len cap] w fun e w' => (∃ A' cap', e = .returned (.slice A' l.length cap') ∧ LAt w' A' l.length (sortL l)) ∧ Below w.heap.size w w' := by
  have hle := hA.1
  subst hle
  obtain ⟨i0, hi0, hz0, hz1, hz2⟩ := info_parts lab_info
  go_enter Try.func8, Try.ntmps8
  go_wp2_with (at_make; refine wpList_make_own _ rfl _ _ 22 rfl w.heap.size 39 i0 _ 2 Try.underlying22 hi0 hz0 hz1 .i64 .i64 _ l.length rfl rfl rfl (by rw [hz2]; omega) (by unfold maxLen; omega) (Nat.le_refl _) ?_; intro w1 hown1 hg1; dsimp only)
  have hb1 : Below w.heap.size w w1 := (Below.refl _ w).grown hg1 (Nat.le_refl _) (by intro k hk; cases hk)
  clear hg1
  obtain ⟨wo, rfl⟩ : ∃ wo : World, wo = w1 := ⟨_, rfl⟩
  go_loopw [3, 11] (fun v c wr => ∃ i : Nat, i ≤ l.length ∧ c = .int .i64 i ∧ (∃ g cp, v = .slice (some ⟨g, 0, none⟩) i cp) ∧ wr.ownsRow w.heap.size 39 2 v i (labC (l.take i)) ∧ Below w.heap.size w wr) (fun _ c _ => l.length - (intOf c).toNat)
  case atStart => exact ⟨0, Nat.zero_le _, rfl, ⟨_, _, rfl⟩, hown1, hb1⟩
  case round =>
    obtain ⟨i, hi, rfl, ⟨g, cp, rfl⟩, hown, hb⟩ := hrel
    have hsz := hb.size
    by_cases hlt : i < l.length
    · obtain ⟨-, ad, rfl, h2, h3, h4⟩ := (hA.below hb).2 i hlt
      obtain ⟨z1, z2⟩ := hz _ (List.getElem_mem hlt)
      obtain ⟨x, hx⟩ : ∃ x, l[i]'hlt = x := ⟨_, rfl⟩
      have hst := labC_take hlt hx
      rw [hx] at h3 h4 z1 z2
      obtain ⟨n, v1⟩ := x
      simp only at hst h3 h4 z1 z2
      have HST := Lib.hid hst
      have c1 := fun W => lclone_c n W (by omega)
      have c2 := fun W => lclone_c v1 W (by omega)
      have hq0 := blk_new wr (.cells #[.string (str n), .string (str v1)] 39)
      have hba : Below w.heap.size w (wr.alloc (.cells #[.string (str n), .string (str v1)] 39)) := hb.alloc hsz _
      have hsa : w.heap.size ≤ (wr.alloc (.cells #[.string (str n), .string (str v1)] 39)).heap.size := by simp; omega
      have hlb : wr.heap.size < (wr.alloc (.cells #[.string (str n), .string (str v1)] 39)).heap.size := by simp
      have HO := Lib.hid (hown.alloc (.cells #[.string (str n), .string (str v1)] 39))
      have hlow := Lib.hid (ownLow hown)
      have hlt1 := Lib.hid (ownLtS hown)
      clear hst hx hown
      have d0 := blk_cell hq0 0
      have d1 := blk_cell hq0 1
      simp only [List.getElem?_toArray, List.getElem?_cons_zero, List.getElem?_cons_succ] at d0 d1
      have hf : ∀ W, Below (wr.alloc (.cells #[.string (str n), .string (str v1)] 39)).heap.size (wr.alloc (.cells #[.string (str n), .string (str v1)] 39)) W → W.cell? ⟨wr.heap.size, 0, none⟩ = some (.string (str n)) ∧ W.cell? ⟨wr.heap.size, 1, none⟩ = some (.string (str v1)) ∧ True := fun W hW => ⟨(hW.cell (p := ⟨wr.heap.size, 0, none⟩) hlb).trans d0, (hW.cell (p := ⟨wr.heap.size, 1, none⟩) hlb).trans d1, trivial⟩
      have HF := Lib.hid hf
      clear hf
      go_wp2_with fail
      refine wp_region_held_drew (S := fun w' => w'.cell? ⟨wr.heap.size, 0, none⟩ = some (.string (str n)) ∧ w'.cell? ⟨wr.heap.size, 1, none⟩ = some (.string (str v1)) ∧ True) (by kernel_rfl) ⟨d0, d1, trivial⟩ (fun hHeld => ?_)
      refine held_w (i := 0) (d := some 15) (v := ?_) rfl (by kernel_rfl) (by kernel_rfl) (by kernel_rfl) (fun _ _ _ h => h) (by rfl) ?_ hHeld ?_
      rotate_left
      · intro w' hSw; obtain ⟨q0, q1, q2⟩ := hSw; simp only [List.getElem?_toArray, List.getElem?_cons_zero, List.getElem?_cons_succ]; go_simp; try with_reducible rfl
      try simp only [Act.put, List.setIfInBounds_toArray, List.set_cons_zero, List.set_cons_succ]
      refine held_w (i := 1) (d := some 16) (v := ?_) rfl (by kernel_rfl) (by kernel_rfl) (by kernel_rfl) (fun _ _ _ h => h) (by rfl) ?_ hHeld ?_
      rotate_left
      · intro w' hSw; obtain ⟨q0, q1, q2⟩ := hSw; simp only [List.getElem?_toArray, List.getElem?_cons_zero, List.getElem?_cons_succ]; go_simp; try with_reducible rfl
      try simp only [Act.put, List.setIfInBounds_toArray, List.set_cons_zero, List.set_cons_succ]
      refine held_w (i := 2) (d := some 17) (v := ?_) rfl (by kernel_rfl) (by kernel_rfl) (by kernel_rfl) (fun _ _ _ h => h) (by rfl) ?_ hHeld ?_
      rotate_left
      · intro w' hSw; obtain ⟨q0, q1, q2⟩ := hSw; simp only [List.getElem?_toArray, List.getElem?_cons_zero, List.getElem?_cons_succ]; go_simp; try with_reducible rfl
      try simp only [Act.put, List.setIfInBounds_toArray, List.set_cons_zero, List.set_cons_succ]
      refine held_w (i := 4) (d := some 19) (v := ?_) rfl (by kernel_rfl) (by kernel_rfl) (by kernel_rfl) (fun _ _ _ h => h) (by rfl) ?_ hHeld ?_
      rotate_left
      · intro w' hSw; obtain ⟨q0, q1, q2⟩ := hSw; simp only [List.getElem?_toArray, List.getElem?_cons_zero, List.getElem?_cons_succ]; go_simp; try with_reducible rfl
      try simp only [Act.put, List.setIfInBounds_toArray, List.set_cons_zero, List.set_cons_succ]
      refine held_w (i := 5) (d := some 20) (v := ?_) rfl (by kernel_rfl) (by kernel_rfl) (by kernel_rfl) (fun _ _ _ h => h) (by rfl) ?_ hHeld ?_
      rotate_left
      · intro w' hSw; obtain ⟨q0, q1, q2⟩ := hSw; simp only [List.getElem?_toArray, List.getElem?_cons_zero, List.getElem?_cons_succ]; go_simp; try with_reducible rfl
      try simp only [Act.put, List.setIfInBounds_toArray, List.set_cons_zero, List.set_cons_succ]
      refine held_c (i := 3) (by kernel_rfl) (by rfl) (fun K hK => ?_)
      simp only [List.getElem?_toArray, List.getElem?_cons_zero, List.getElem?_cons_succ]
      go_simp
      refine (c1 _).mono ?_
      rintro e w2 ⟨rfl, hb2⟩
      have hbA := below_of_drew hb2
      refine hK.out _ _ (HF.out _ hbA) (fun hHeld => ?_)
      clear hK K hb2
      try simp only [Act.put, List.setIfInBounds_toArray, List.set_cons_zero, List.set_cons_succ]
      refine held_c (i := 6) (by kernel_rfl) (by rfl) (fun K hK => ?_)
      simp only [List.getElem?_toArray, List.getElem?_cons_zero, List.getElem?_cons_succ]
      go_simp
      refine (c2 _).mono ?_
      rintro e w3 ⟨rfl, hb3⟩
      have hbB := below2 hbA hb3 hbA.size
      refine hK.out _ _ (HF.out _ hbB) (fun hHeld => ?_)
      clear hK K hb3
      try simp only [Act.put, List.setIfInBounds_toArray, List.set_cons_zero, List.set_cons_succ]
      refine held_w (i := 7) (d := some 22) (v := ?_) rfl (by kernel_rfl) (by kernel_rfl) (by kernel_rfl) (fun _ _ _ h => h) (by rfl) ?_ hHeld ?_
      rotate_left
      · intro w' hSw; obtain ⟨q0, q1, q2⟩ := hSw; simp only [List.getElem?_toArray, List.getElem?_cons_zero, List.getElem?_cons_succ]; go_simp; try with_reducible rfl
      try simp only [Act.put, List.setIfInBounds_toArray, List.set_cons_zero, List.set_cons_succ]
      refine held_c (i := 8) (by kernel_rfl) (by rfl) (fun K hK => ?_)
      simp only [List.getElem?_toArray, List.getElem?_cons_zero, List.getElem?_cons_succ]
      go_simp
      have hbC := hbB.alloc hbB.size (.cells #[.string (str n), .string (str v1)] 39)
      have HO3 := Lib.hid (((Keeps.below (F := []) hbB).row HO.out (by simp)).alloc (.cells #[.string (str n), .string (str v1)] 39))
      refine hK.out _ _ (HF.out _ hbC) (fun hHeld => ?_)
      clear hK K
      try simp only [Act.put, List.setIfInBounds_toArray, List.set_cons_zero, List.set_cons_succ]
      refine held_c (i := 9) (by kernel_rfl) (by rfl) (fun K hK => ?_)
      simp only [List.getElem?_toArray, List.getElem?_cons_zero, List.getElem?_cons_succ]
      refine wp_append_lies _ (.tmp 15) (.tmp 23) 22 rfl w.heap.size 39 i0 (.agg #[.string (str []), .string (str [])]) 2 32 Try.underlying22 hi0 hz0 hz1 hz2 rfl (by decide) _ i (labC (l.take i)) rfl HO3.out ⟨w3.heap.size, 0, none⟩ 1 1 [.string (str n), .string (str v1)] rfl rfl (cells_two_new _ _ _ _) (by intro u hu; simp at hu; rcases hu with rfl | rfl <;> rfl) (by decide) (by unfold maxLen; omega) (by omega) (by have := hbC.size; omega) _ rfl ?_
      intro g1 cap1 w4 hown1 hg1 _ hl1
      have hb4 : Below w.heap.size w w4 := (hba.trans (hbC.mono hsa)).grown hg1 (by have := hbC.size; omega) hlow.out
      have hcf : ∀ k, w4.cell? ⟨wr.heap.size, k, none⟩ = _ := fun k => hg1.cell_far ⟨wr.heap.size, k, none⟩ (by have := hbC.size; simp at this ⊢; omega) (fun e => by have := hlt1.out _ e.symm; simp at this)
      have hown2 := hown1
      rw [← HST.out] at hown2
      have HW := Lib.hid (And.intro hown2 hb4)
      refine hK.out _ _ ⟨(hcf 0).trans (HF.out _ hbC).1, (hcf 1).trans (HF.out _ hbC).2.1, trivial⟩ (fun hHeld => ?_)
      clear hK K hown1 hown2 hg1 hb4 hcf
      try simp only [Act.put, List.setIfInBounds_toArray, List.set_cons_zero, List.set_cons_succ]
      refine held_w (i := 10) (d := some 3) (v := ?_) rfl (by kernel_rfl) (by kernel_rfl) (by kernel_rfl) (fun _ _ _ h => h) (by rfl) ?_ hHeld ?_
      rotate_left
      · intro w' hSw; obtain ⟨q0, q1, q2⟩ := hSw; simp only [List.getElem?_toArray, List.getElem?_cons_zero, List.getElem?_cons_succ]; go_simp; try with_reducible rfl
      try simp only [Act.put, List.setIfInBounds_toArray, List.set_cons_zero, List.set_cons_succ]
      refine wpAnyH_done (by kernel_rfl) ?_ _
      go_wp2_with fail
      go_roundw
      case rel => exact ⟨i + 1, by omega, by go_num, ⟨_, _, rfl⟩, HW.out.1, HW.out.2⟩
      case measure => simp [intOf]; omega
    · obtain rfl : i = l.length := by omega
      rw [List.take_length] at hown
      obtain ⟨r1, r2, r3⟩ := own_rowL hown rfl
      have hsort := fun W hW => sortStable_c g w.heap.size l.length cp l W r2 hW rfl r3 hl
      have hs9 : ∀ x ∈ l, x.1.length ≤ 9223372036854775807 ∧ x.2.length ≤ 9223372036854775807 := fun x hx => by have := hz x hx; omega
      have HS9 := Lib.hid hs9
      have R1 := Lib.hid r1
      clear r1 hown hs9
      go_wp2_with (go_at_call 19; refine (hsort _ hsz R1.out).mono ?_; rintro _ w2 ⟨rfl, hD, hb2⟩; have HD := Lib.hid hD; clear hD; dsimp only)
      go_ret
      refine ⟨⟨_, _, rfl, ?_⟩, hb.trans hb2⟩
      obtain ⟨D, d1, d2, d3, d4⟩ := HD.out
      have e := sortL_eq d2 d3
      have := rowL_lat d1 (fun x hx => HS9.out x (d3.mem hx))
      rw [d4, e] at this
      exact this
end Go.Proofs.Ytopnnhjfcfhihaa
