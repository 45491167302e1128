/-
  Layer 9 (block): the law BlockLasts returns true.
-/
import Derived.Test.YtndmndchbfmppaaBlockUse
import Derived.Test.YtndmndchbfmppaaBlockFacts
import Derived.Test.YtndmndchbfmppaaHeld
import Derived.Deep.RegionLaw
namespace Go.Proofs.Ytndmndchbfmppaa
open Go.RowKit Go.Deep
attribute [local go_sem] str_size str_append str_toList str_get str_extract
set_option linter.unusedVariables false
set_option linter.unusedSimpArgs false
theorem rowIs_stay {X : List Nat} {w w' : World} {b : Nat} {t : TypeId} {n : Nat} {f : Nat → Value} (h : w.rowIs b t n f) (hs : Stay X w w') (hb : b ∈ X) : w'.rowIs b t n f := h.of_block (hs b hb)
theorem bool_info9 : (Try.prog.info? 4).map (fun i => (i.zero, i.size, i.bytes)) = some (some (.bool false), 1, 1) := by kernel_rfl
set_option maxRecDepth 100000 in
set_option maxHeartbeats 4000000 in
theorem law_BlockLasts (a0 : Option Addr) (len0 cap0 : Nat) (z0 : List BStp) (a1 : Option Addr) (len1 cap1 : Nat) (z1 : List BStp) (a2 : Int) (w : World) (hl0 : len0 ≤ maxLen) (w0 : BsAt w a0 len0 z0) (hl1 : len1 ≤ maxLen) (w1 : BsAt w a1 len1 z1) (w2 : (Lit.int .u64 a2).wf = true) :
    Calls Try.prog 4 #[.slice a0 len0 cap0, .slice a1 len1 cap1, .int .u64 a2] w fun e w' => e = .returned (.bool true) ∧ Below w.heap.size w w' := by
  unfold maxLen at hl0 hl1
  obtain ⟨r1, r2⟩ := bounds_u64 w2
  obtain ⟨keep, rfl⟩ : ∃ k : Nat, a2 = k := ⟨a2.toNat, by omega⟩
  have hkeep : keep < 18446744073709551616 := by omega
  have hle0 := w0.1
  have hle1 := w1.1
  subst hle0 hle1
  have CL0 := Lib.hid (bheavy_c a0 z0.length cap0 z0 w (by omega) w0)
  have CL1 := Lib.hid (bheavy_c a1 z1.length cap1 z1 w (by omega) w1)
  cases hB0 : heavyB z0 with
  | true =>
    rw [hB0] at CL0
    clear hB0
    go_enter Try.func4, Try.ntmps4
    go_wp2_with (go_at_call 8; refine CL0.out.mono ?_; rintro e v1 ⟨rfl, rfl⟩; dsimp only)
    go_ret
    exact ⟨rfl, Below.refl _ _⟩
  | false =>
  have hsm0 := heavyB_small hB0
  rw [hB0] at CL0
  cases hB1 : heavyB z1 with
  | true =>
    rw [hB1] at CL1
    clear hB0 hB1
    go_enter Try.func4, Try.ntmps4
    go_wp2_with fail
    refine CL0.out.mono ?_
    rintro e v1 ⟨rfl, rfl⟩
    go_wp2_with fail
    refine CL1.out.mono ?_
    rintro e v1 ⟨rfl, rfl⟩
    go_wp2_with fail
    go_ret
    exact ⟨rfl, Below.refl _ _⟩
  | false =>
  have hsm1 := heavyB_small hB1
  rw [hB1] at CL1
  have HW0 := Lib.hid w0
  have HW1 := Lib.hid w1
  obtain ⟨N, hN⟩ : ∃ N, z0.length = N := ⟨_, rfl⟩
  obtain ⟨M, hM⟩ : ∃ M, z1.length = M := ⟨_, rfl⟩
  have HN := Lib.hid hN
  have HM := Lib.hid hM
  rw [hN] at CL0 hsm0 ⊢
  rw [hM] at CL1 hsm1 ⊢
  have CN := Lib.hid (oNew_c 12 w w (Below.refl _ w) (by omega) (by omega))
  clear hB0 hB1 w0 w1 hN hM hl0 hl1
  go_enter Try.func4, Try.ntmps4
  go_wp2_with fail
  refine CL0.out.mono ?_
  rintro e v1 ⟨rfl, rfl⟩
  go_wp2_with fail
  refine CL1.out.mono ?_
  rintro e v1 ⟨rfl, rfl⟩
  go_wp2_with (go_at_call 9; refine CN.out.mono ?_; rintro e v1 ⟨q, rfl, ho⟩; have HO := Lib.hid ho; clear ho; dsimp only)
  go_loopw [8] (fun c wr => ∃ (i : Nat) (S : DSt), i ≤ N ∧ c = .int .i64 i ∧ Hid (Calm S 12 ∧ Fit S (2 * i) ∧ OwnB w q S wr)) (fun c _ => N - (intOf c).toNat)
  case atStart => exact ⟨0, _, Nat.zero_le _, rfl, ⟨calm_new, fit_new 12 0, HO.out⟩⟩
  case round =>
    obtain ⟨i, S, hi, rfl, HS⟩ := hrel
    by_cases hlt : i < N
    · obtain ⟨ad, kd, I, s, kp, rfl, -, ⟨s1, s2, s3, s4, s5, s6⟩, hcell⟩ := HW0.out.cells4 i (by have := HN.out; omega)
      have HC := Lib.hid hcell
      obtain ⟨x0, x1, x2, x3⟩ := hcell _ HS.out.2.2.bel
      clear hcell
      by_cases k0 : kd = 0
      · have t0 : (kd == 0) = true := by simpa using k0
        have HO2 := Lib.hid HS.out.2.2
        have hfit := HS.out.2.1
        have CW := Lib.hid (fun W (hW : OwnB w q S W) => oWrite_c hW (hfit.mono (by omega)) s5 s6 s1)
        have hca := (calm_write_any HS.out.1 I s).1
        have hf2 := fit_write (i := I) (s := s) hfit
        obtain ⟨cd, T, hw⟩ : ∃ cd T, writeD S I s = (cd, T) := ⟨_, _, rfl⟩
        rw [hw] at CW hca hf2
        have HCA := Lib.hid (And.intro hca hf2)
        clear hca hf2 hw hfit k0
        go_wp2_with fail
        go_region_law (first
          | (go_simp; go_at_call 19; refine (CW.out _ (by first | exact HO2.out | exact HO2.out.drew | exact HO2.out.drewN _)).mono ?_; rintro e v3 ⟨rfl, hx⟩; have HO3 := Lib.hid hx; obtain ⟨y0, y1, y2, y3⟩ := HC.out _ hx.bel; clear hx; dsimp only))
        all_goals
          go_wp2_with fail
          go_roundw
          case rel => exact ⟨i + 1, T, by omega, by go_num, ⟨HCA.out.1, HCA.out.2.mono (by omega), by first | exact HO3.out | exact HO3.out.drew⟩⟩
          case measure => simp [intOf]; omega
      · have t0 : (kd == 0) = false := by simpa using k0
        go_wp2_with fail
        go_roundw
        case rel => exact ⟨i + 1, S, by omega, by go_num, ⟨HS.out.1, HS.out.2.1.mono (by omega), HS.out.2.2⟩⟩
        case measure => simp [intOf]; omega
    · obtain rfl : i = N := by omega
      obtain ⟨ef, hc1⟩ := calm_flush HS.out.1
      have hf1 := fit_flush HS.out.2.1
      have CF := Lib.hid (oFlush_c HS.out.2.2 (HS.out.2.1.mono (by omega)))
      rw [ef] at CF hf1
      have hw1 : ∀ j, (settleD { S with calls := S.calls + 1 }).wt j = [] := fun _ => rfl
      obtain ⟨S1, hS1⟩ : ∃ S1, settleD { S with calls := S.calls + 1 } = S1 := ⟨_, rfl⟩
      simp only [hS1] at CF hf1 hc1 hw1
      have HC1 := Lib.hid (And.intro hc1 (And.intro (hf1.mono (show 2 * i + 2 ≤ 500 by omega)) hw1))
      have m1 := fun W => run_make_row' (P := Try.prog) 29 9 (.string ⟨#[]⟩) 16 Try.underlying29 txt_info rfl .i64 .i64 12 (by omega) (by omega) W
      have m2 := fun W => run_make_row' (P := Try.prog) 44 4 (.bool false) 1 Try.underlying44 bool_info9 rfl .i64 .i64 12 (by omega) (by omega) W
      simp only [Int.cast_ofNat_Int] at m1 m2
      have hread : ∀ j : Nat, j < 12 → readD S1 (j : Int) = (S1.is j, 0) := fun j hj => by rw [calm_read hc1 (by omega), Int.toNat_natCast, hw1]; rfl
      have HRD := Lib.hid hread
      clear ef hc1 hf1 hw1 hS1 hread hlt
      go_wp2_with (go_at_call 20; refine CF.out.mono ?_; rintro e v3 ⟨rfl, hx⟩; have HX := Lib.hid hx; clear hx; dsimp only)
      have hX1 : Hid (OwnX w q S1 [v3.heap.size] (v3.alloc (.cells (madeCells #[.string ⟨#[]⟩] 12) 9))) := OwnX.turned HX.out ((Keeps.refl [] v3).alloc _) (by simp) (fun k hk => by simp at hk; subst hk; exact ⟨.inr (Nat.le_refl _), by simp⟩)
      have hR1 := Lib.hid (World.rowIs_made v3 (.string ⟨#[]⟩) 12 9)
      have hb3 := HX.out.bel.size
      go_loopw [10] (fun c wr => ∃ k : Nat, k ≤ 12 ∧ c = .int .i64 k ∧ Hid (OwnX w q S1 [v3.heap.size] wr ∧ wr.rowIs v3.heap.size 9 12 (fun j => if j < k then .string (str (S1.is j)) else .string ⟨#[]⟩))) (fun c _ => 12 - (intOf c).toNat)
      case atStart => exact ⟨0, by omega, rfl, hX1.out, hR1.out.congr (fun j _ => by rw [if_neg (by omega)])⟩
      case round =>
        clear hX1 hR1
        obtain ⟨k, hk, rfl, HK⟩ := hrel
        by_cases hlt : k < 12
        · have CR := Lib.hid (xRead_c HK.out.1 (HC1.out.2.1.mono (by omega)) (i := (k : Int)) (by omega) (by omega))
          rw [HRD.out k hlt] at CR
          go_wp2_with (go_at_call 17; refine CR.out.mono ?_; rintro e v4 ⟨rfl, hx, hst⟩; have hrow := rowIs_stay HK.out.2 hst (by simp); have d1 := hrow.cell hlt; have f1 := hrow.frozen k; have HX4 := Lib.hid (And.intro hx hrow); clear hx hst hrow; dsimp only)
          go_roundw
          case rel =>
            refine ⟨k + 1, by omega, by go_num, OwnX.turned HX4.out.1 ((Keeps.refl [v3.heap.size] v4).setCell (.inl (by simp)) _) (fun x hx => by simp at hx; subst hx; exact hb3) (fun x hx => ⟨.inl hx, ?_⟩), (HX4.out.2.set k _).congr (fun j hj => ?_)⟩
            · simp at hx; subst hx; exact ((HX4.out.2.set k (.string (str (S1.is k)))).lt)
            · by_cases e : j = k
              · subst e; rw [if_pos rfl, if_pos (by omega)]
              · rw [if_neg e]
                by_cases e2 : j < k
                · rw [if_pos e2, if_pos (by omega)]
                · rw [if_neg e2, if_neg (by omega)]
          case measure => simp [intOf]; omega
        · obtain rfl : k = 12 := by omega
          obtain ⟨wo, rfl⟩ : ∃ wo : World, wo = wr := ⟨_, rfl⟩
          have hX5 : Hid (OwnX w q S1 [v3.heap.size, wo.heap.size] (wo.alloc (.cells (madeCells #[.bool false] 12) 4))) := OwnX.turned HK.out.1 ((Keeps.refl _ wo).alloc _) (fun x hx => by simp at hx; subst hx; exact hb3) (fun x hx => by
            simp at hx
            rcases hx with rfl | rfl
            · exact ⟨.inl (by simp), by have := HK.out.2.lt; simp; omega⟩
            · exact ⟨.inr (Nat.le_refl _), by simp⟩)
          have hR5 := Lib.hid (And.intro (World.rowIs_made wo (.bool false) 12 4) (World.rowIs.alloc HK.out.2 (.cells (madeCells #[.bool false] 12) 4)))
          have hb5 := HK.out.1.bel.size
          have hne : v3.heap.size ≠ wo.heap.size := by have := HK.out.2.lt; omega
          go_wp2_with fail
          go_loopw [14] (fun c wr => ∃ (m : Nat) (T : DSt) (lf : Nat → Bool), m ≤ M ∧ c = .int .i64 m ∧ Hid (Calm T 12 ∧ Fit T (500 + 2 * m) ∧ T.is = S1.is ∧ (∀ j, lf j = false → T.wt j = []) ∧ OwnX w q T [v3.heap.size, wo.heap.size] wr ∧ wr.rowIs wo.heap.size 4 12 (fun j => .bool (lf j)) ∧ wr.rowIs v3.heap.size 9 12 (fun j => if j < 12 then .string (str (S1.is j)) else .string ⟨#[]⟩))) (fun c _ => M - (intOf c).toNat)
          case atStart => exact ⟨0, S1, fun _ => false, Nat.zero_le _, rfl, ⟨HC1.out.1, HC1.out.2.1, rfl, fun j _ => HC1.out.2.2 j, hX5.out, hR5.out.1, hR5.out.2⟩⟩
          case round =>
            clear hX5 hR5
            obtain ⟨m, T, lf, hm, rfl, HT⟩ := hrel
            obtain ⟨hcalm, hfit, his, hwt, hown, hlr, hwr⟩ := HT.out
            by_cases hlt : m < M
            · obtain ⟨ad, kd, I, s, kp, rfl, -, ⟨s1, s2, s3, s4, s5, s6⟩, hcell⟩ := HW1.out.cells4 m (by have := HM.out; omega)
              have HC := Lib.hid hcell
              obtain ⟨x0, x1, x2, x3⟩ := hcell _ hown.bel
              clear hcell
              by_cases k0 : kd = 0
              · have t0 : (kd == 0) = true := by simpa using k0
                have HO2 := Lib.hid (And.intro hown (And.intro hlr hwr))
                have CW := Lib.hid (fun W (hW : OwnX w q T [v3.heap.size, wo.heap.size] W) => xWrite_c hW (hfit.mono (by omega)) s5 s6 s1)
                obtain ⟨ha1, ha2, ha3, ha4⟩ := calm_write_any hcalm I s
                have hf2 := fit_write (i := I) (s := s) hfit
                obtain ⟨cd, U, hw⟩ : ∃ cd U, writeD T I s = (cd, U) := ⟨_, _, rfl⟩
                simp only [hw] at CW ha1 ha2 ha3 ha4 hf2
                by_cases hcd : cd = 91
                · subst hcd
                  have HU : Hid (Calm U 12 ∧ Fit U (500 + 2 * (m + 1)) ∧ U.is = S1.is ∧ (∀ j, lf j = false → U.wt j = [])) := ⟨ha1, hf2.mono (by omega), ha2.trans his, fun j hj => by rw [ha3 j (.inl (by decide))]; exact hwt j hj⟩
                  clear ha1 ha2 ha3 ha4 hf2 hw hcalm hfit his hwt hown hlr hwr k0
                  go_wp2_with fail
                  refine wp_region_held_drew (S := fun wx => wx.cell? (ad.add (m * 4)) = some (.int .i64 kd) ∧ wx.cell? ⟨(ad.add (m * 4)).block, (ad.add (m * 4)).off + 1, none⟩ = some (.int .i64 I) ∧ wx.cell? ⟨(ad.add (m * 4)).block, (ad.add (m * 4)).off + 2, none⟩ = some (.string (str s)) ∧ True) (by kernel_rfl) ⟨x0, x1, x2, trivial⟩ (fun hHeld => ?_)
                  refine held_w (i := 0) (d := some 76) (v := ?_) rfl (by kernel_rfl) (by kernel_rfl) (by kernel_rfl) (fun _ _ _ h => h) (by rfl) ?_ hHeld ?_
                  rotate_left
                  · intro w' hSw; obtain ⟨q0, q1, q2, q3⟩ := hSw; simp only [List.getElem?_toArray, List.getElem?_cons_zero, List.getElem?_cons_succ]; go_simp; try with_reducible rfl
                  try simp only [Act.put, List.setIfInBounds_toArray, List.set_cons_zero, List.set_cons_succ]
                  refine held_w (i := 1) (d := some 77) (v := ?_) rfl (by kernel_rfl) (by kernel_rfl) (by kernel_rfl) (fun _ _ _ h => h) (by rfl) ?_ hHeld ?_
                  rotate_left
                  · intro w' hSw; obtain ⟨q0, q1, q2, q3⟩ := hSw; simp only [List.getElem?_toArray, List.getElem?_cons_zero, List.getElem?_cons_succ]; go_simp; try with_reducible rfl
                  try simp only [Act.put, List.setIfInBounds_toArray, List.set_cons_zero, List.set_cons_succ]
                  refine held_w (i := 2) (d := some 78) (v := ?_) rfl (by kernel_rfl) (by kernel_rfl) (by kernel_rfl) (fun _ _ _ h => h) (by rfl) ?_ hHeld ?_
                  rotate_left
                  · intro w' hSw; obtain ⟨q0, q1, q2, q3⟩ := hSw; simp only [List.getElem?_toArray, List.getElem?_cons_zero, List.getElem?_cons_succ]; go_simp; try with_reducible rfl
                  try simp only [Act.put, List.setIfInBounds_toArray, List.set_cons_zero, List.set_cons_succ]
                  refine held_w (i := 3) (d := some 79) (v := ?_) rfl (by kernel_rfl) (by kernel_rfl) (by kernel_rfl) (fun _ _ _ h => h) (by rfl) ?_ hHeld ?_
                  rotate_left
                  · intro w' hSw; obtain ⟨q0, q1, q2, q3⟩ := hSw; simp only [List.getElem?_toArray, List.getElem?_cons_zero, List.getElem?_cons_succ]; go_simp; try with_reducible rfl
                  try simp only [Act.put, List.setIfInBounds_toArray, List.set_cons_zero, List.set_cons_succ]
                  refine held_w (i := 4) (d := some 80) (v := ?_) rfl (by kernel_rfl) (by kernel_rfl) (by kernel_rfl) (fun _ _ _ h => h) (by rfl) ?_ hHeld ?_
                  rotate_left
                  · intro w' hSw; obtain ⟨q0, q1, q2, q3⟩ := hSw; simp only [List.getElem?_toArray, List.getElem?_cons_zero, List.getElem?_cons_succ]; go_simp; try with_reducible rfl
                  try simp only [Act.put, List.setIfInBounds_toArray, List.set_cons_zero, List.set_cons_succ]
                  refine held_w (i := 5) (d := some 81) (v := ?_) rfl (by kernel_rfl) (by kernel_rfl) (by kernel_rfl) (fun _ _ _ h => h) (by rfl) ?_ hHeld ?_
                  rotate_left
                  · intro w' hSw; obtain ⟨q0, q1, q2, q3⟩ := hSw; simp only [List.getElem?_toArray, List.getElem?_cons_zero, List.getElem?_cons_succ]; go_simp; try with_reducible rfl
                  try simp only [Act.put, List.setIfInBounds_toArray, List.set_cons_zero, List.set_cons_succ]
                  refine held_w (i := 6) (d := some 82) (v := ?_) rfl (by kernel_rfl) (by kernel_rfl) (by kernel_rfl) (fun _ _ _ h => h) (by rfl) ?_ hHeld ?_
                  rotate_left
                  · intro w' hSw; obtain ⟨q0, q1, q2, q3⟩ := hSw; simp only [List.getElem?_toArray, List.getElem?_cons_zero, List.getElem?_cons_succ]; go_simp; try with_reducible rfl
                  try simp only [Act.put, List.setIfInBounds_toArray, List.set_cons_zero, List.set_cons_succ]
                  refine held_w (i := 7) (d := some 83) (v := ?_) rfl (by kernel_rfl) (by kernel_rfl) (by kernel_rfl) (fun _ _ _ h => h) (by rfl) ?_ hHeld ?_
                  rotate_left
                  · intro w' hSw; obtain ⟨q0, q1, q2, q3⟩ := hSw; simp only [List.getElem?_toArray, List.getElem?_cons_zero, List.getElem?_cons_succ]; go_simp; try with_reducible rfl
                  try simp only [Act.put, List.setIfInBounds_toArray, List.set_cons_zero, List.set_cons_succ]
                  refine held_w (i := 8) (d := some 84) (v := ?_) rfl (by kernel_rfl) (by kernel_rfl) (by kernel_rfl) (fun _ _ _ h => h) (by rfl) ?_ hHeld ?_
                  rotate_left
                  · intro w' hSw; obtain ⟨q0, q1, q2, q3⟩ := hSw; simp only [List.getElem?_toArray, List.getElem?_cons_zero, List.getElem?_cons_succ]; go_simp; try with_reducible rfl
                  try simp only [Act.put, List.setIfInBounds_toArray, List.set_cons_zero, List.set_cons_succ]
                  refine held_w (i := 9) (d := some 85) (v := ?_) rfl (by kernel_rfl) (by kernel_rfl) (by kernel_rfl) (fun _ _ _ h => h) (by rfl) ?_ hHeld ?_
                  rotate_left
                  · intro w' hSw; obtain ⟨q0, q1, q2, q3⟩ := hSw; simp only [List.getElem?_toArray, List.getElem?_cons_zero, List.getElem?_cons_succ]; go_simp; try with_reducible rfl
                  try simp only [Act.put, List.setIfInBounds_toArray, List.set_cons_zero, List.set_cons_succ]
                  refine held_w (i := 10) (d := some 86) (v := ?_) rfl (by kernel_rfl) (by kernel_rfl) (by kernel_rfl) (fun _ _ _ h => h) (by rfl) ?_ hHeld ?_
                  rotate_left
                  · intro w' hSw; obtain ⟨q0, q1, q2, q3⟩ := hSw; simp only [List.getElem?_toArray, List.getElem?_cons_zero, List.getElem?_cons_succ]; go_simp; try with_reducible rfl
                  try simp only [Act.put, List.setIfInBounds_toArray, List.set_cons_zero, List.set_cons_succ]
                  refine held_w (i := 11) (d := some 87) (v := ?_) rfl (by kernel_rfl) (by kernel_rfl) (by kernel_rfl) (fun _ _ _ h => h) (by rfl) ?_ hHeld ?_
                  rotate_left
                  · intro w' hSw; obtain ⟨q0, q1, q2, q3⟩ := hSw; simp only [List.getElem?_toArray, List.getElem?_cons_zero, List.getElem?_cons_succ]; go_simp; try with_reducible rfl
                  try simp only [Act.put, List.setIfInBounds_toArray, List.set_cons_zero, List.set_cons_succ]
                  refine held_w (i := 12) (d := some 88) (v := ?_) rfl (by kernel_rfl) (by kernel_rfl) (by kernel_rfl) (fun _ _ _ h => h) (by rfl) ?_ hHeld ?_
                  rotate_left
                  · intro w' hSw; obtain ⟨q0, q1, q2, q3⟩ := hSw; simp only [List.getElem?_toArray, List.getElem?_cons_zero, List.getElem?_cons_succ]; go_simp; try with_reducible rfl
                  try simp only [Act.put, List.setIfInBounds_toArray, List.set_cons_zero, List.set_cons_succ]
                  refine held_w (i := 13) (d := some 89) (v := ?_) rfl (by kernel_rfl) (by kernel_rfl) (by kernel_rfl) (fun _ _ _ h => h) (by rfl) ?_ hHeld ?_
                  rotate_left
                  · intro w' hSw; obtain ⟨q0, q1, q2, q3⟩ := hSw; simp only [List.getElem?_toArray, List.getElem?_cons_zero, List.getElem?_cons_succ]; go_simp; try with_reducible rfl
                  try simp only [Act.put, List.setIfInBounds_toArray, List.set_cons_zero, List.set_cons_succ]
                  refine held_w (i := 14) (d := some 90) (v := ?_) rfl (by kernel_rfl) (by kernel_rfl) (by kernel_rfl) (fun _ _ _ h => h) (by rfl) ?_ hHeld ?_
                  rotate_left
                  · intro w' hSw; obtain ⟨q0, q1, q2, q3⟩ := hSw; simp only [List.getElem?_toArray, List.getElem?_cons_zero, List.getElem?_cons_succ]; go_simp; try with_reducible rfl
                  try simp only [Act.put, List.setIfInBounds_toArray, List.set_cons_zero, List.set_cons_succ]
                  refine held_w (i := 15) (d := some 91) (v := ?_) rfl (by kernel_rfl) (by kernel_rfl) (by kernel_rfl) (fun _ _ _ h => h) (by rfl) ?_ hHeld ?_
                  rotate_left
                  · intro w' hSw; obtain ⟨q0, q1, q2, q3⟩ := hSw; simp only [List.getElem?_toArray, List.getElem?_cons_zero, List.getElem?_cons_succ]; go_simp; try with_reducible rfl
                  try simp only [Act.put, List.setIfInBounds_toArray, List.set_cons_zero, List.set_cons_succ]
                  refine held_w (i := 16) (d := some 92) (v := ?_) rfl (by kernel_rfl) (by kernel_rfl) (by kernel_rfl) (fun _ _ _ h => h) (by rfl) ?_ hHeld ?_
                  rotate_left
                  · intro w' hSw; obtain ⟨q0, q1, q2, q3⟩ := hSw; simp only [List.getElem?_toArray, List.getElem?_cons_zero, List.getElem?_cons_succ]; go_simp; try with_reducible rfl
                  try simp only [Act.put, List.setIfInBounds_toArray, List.set_cons_zero, List.set_cons_succ]
                  refine held_w (i := 17) (d := some 93) (v := ?_) rfl (by kernel_rfl) (by kernel_rfl) (by kernel_rfl) (fun _ _ _ h => h) (by rfl) ?_ hHeld ?_
                  rotate_left
                  · intro w' hSw; obtain ⟨q0, q1, q2, q3⟩ := hSw; simp only [List.getElem?_toArray, List.getElem?_cons_zero, List.getElem?_cons_succ]; go_simp; try with_reducible rfl
                  try simp only [Act.put, List.setIfInBounds_toArray, List.set_cons_zero, List.set_cons_succ]
                  refine held_c (i := 18) (by kernel_rfl) (by rfl) (fun K hK => ?_)
                  simp only [List.getElem?_toArray, List.getElem?_cons_zero, List.getElem?_cons_succ]
                  go_simp
                  refine (CW.out _ (by first | exact HO2.out.1 | exact HO2.out.1.drew)).mono ?_
                  rintro e v5 ⟨rfl, hx, hst⟩
                  have HO3 := Lib.hid (And.intro hx (And.intro (rowIs_stay HO2.out.2.1 hst (by simp)) (rowIs_stay HO2.out.2.2 hst (by simp))))
                  obtain ⟨y0, y1, y2, y3⟩ := HC.out _ hx.bel
                  clear hx hst
                  refine hK.out _ _ ⟨y0, y1, y2, trivial⟩ (fun hHeld => ?_)
                  clear hK K
                  try simp only [Act.put, List.setIfInBounds_toArray, List.set_cons_zero, List.set_cons_succ]
                  refine held_w (i := 19) (d := some 95) (v := ?_) rfl (by kernel_rfl) (by kernel_rfl) (by kernel_rfl) (fun _ _ _ h => h) (by rfl) ?_ hHeld ?_
                  rotate_left
                  · intro w' hSw; obtain ⟨q0, q1, q2, q3⟩ := hSw; simp only [List.getElem?_toArray, List.getElem?_cons_zero, List.getElem?_cons_succ]; go_simp; try with_reducible rfl
                  try simp only [Act.put, List.setIfInBounds_toArray, List.set_cons_zero, List.set_cons_succ]
                  refine held_w (i := 20) (d := some 96) (v := ?_) rfl (by kernel_rfl) (by kernel_rfl) (by kernel_rfl) (fun _ _ _ h => h) (by rfl) ?_ hHeld ?_
                  rotate_left
                  · intro w' hSw; obtain ⟨q0, q1, q2, q3⟩ := hSw; simp only [List.getElem?_toArray, List.getElem?_cons_zero, List.getElem?_cons_succ]; go_simp; try with_reducible rfl
                  try simp only [Act.put, List.setIfInBounds_toArray, List.set_cons_zero, List.set_cons_succ]
                  refine wpAnyH_done (by kernel_rfl) ?_ _
                  go_wp2_with fail
                  go_roundw
                  case rel =>
                    repeat apply Exists.intro
                    refine ⟨?rel2, rfl⟩
                    exact ⟨m + 1, U, lf, by omega, by go_num, ⟨HU.out.1, HU.out.2.1, HU.out.2.2.1, HU.out.2.2.2, HO3.out.1, HO3.out.2.1, HO3.out.2.2⟩⟩
                  case measure => simp [intOf]; omega
                · obtain ⟨e0, g1, g2, g3⟩ := ha4.resolve_left hcd
                  subst e0
                  obtain ⟨J, rfl⟩ : ∃ J : Nat, I = J := ⟨I.toNat, by omega⟩
                  have hJ : J < 12 := by omega
                  have HU : Hid (Calm U 12 ∧ Fit U (500 + 2 * (m + 1)) ∧ U.is = S1.is ∧ (∀ j, (if j = J then true else lf j) = false → U.wt j = [])) := ⟨ha1, hf2.mono (by omega), ha2.trans his, fun j hj => by
                    by_cases e : j = J
                    · rw [if_pos e] at hj; cases hj
                    · rw [if_neg e] at hj; rw [ha3 j (.inr (by omega))]; exact hwt j hj⟩
                  clear ha1 ha2 ha3 ha4 hf2 hw hcalm hfit his hwt hown hlr hwr k0 g1 g2 g3 hcd
                  go_wp2_with fail
                  refine wp_region_held_drew (S := fun wx => wx.cell? (ad.add (m * 4)) = some (.int .i64 kd) ∧ wx.cell? ⟨(ad.add (m * 4)).block, (ad.add (m * 4)).off + 1, none⟩ = some (.int .i64 (J : Int)) ∧ wx.cell? ⟨(ad.add (m * 4)).block, (ad.add (m * 4)).off + 2, none⟩ = some (.string (str s)) ∧ True) (by kernel_rfl) ⟨x0, x1, x2, trivial⟩ (fun hHeld => ?_)
                  refine held_w (i := 0) (d := some 76) (v := ?_) rfl (by kernel_rfl) (by kernel_rfl) (by kernel_rfl) (fun _ _ _ h => h) (by rfl) ?_ hHeld ?_
                  rotate_left
                  · intro w' hSw; obtain ⟨q0, q1, q2, q3⟩ := hSw; simp only [List.getElem?_toArray, List.getElem?_cons_zero, List.getElem?_cons_succ]; go_simp; try with_reducible rfl
                  try simp only [Act.put, List.setIfInBounds_toArray, List.set_cons_zero, List.set_cons_succ]
                  refine held_w (i := 1) (d := some 77) (v := ?_) rfl (by kernel_rfl) (by kernel_rfl) (by kernel_rfl) (fun _ _ _ h => h) (by rfl) ?_ hHeld ?_
                  rotate_left
                  · intro w' hSw; obtain ⟨q0, q1, q2, q3⟩ := hSw; simp only [List.getElem?_toArray, List.getElem?_cons_zero, List.getElem?_cons_succ]; go_simp; try with_reducible rfl
                  try simp only [Act.put, List.setIfInBounds_toArray, List.set_cons_zero, List.set_cons_succ]
                  refine held_w (i := 2) (d := some 78) (v := ?_) rfl (by kernel_rfl) (by kernel_rfl) (by kernel_rfl) (fun _ _ _ h => h) (by rfl) ?_ hHeld ?_
                  rotate_left
                  · intro w' hSw; obtain ⟨q0, q1, q2, q3⟩ := hSw; simp only [List.getElem?_toArray, List.getElem?_cons_zero, List.getElem?_cons_succ]; go_simp; try with_reducible rfl
                  try simp only [Act.put, List.setIfInBounds_toArray, List.set_cons_zero, List.set_cons_succ]
                  refine held_w (i := 3) (d := some 79) (v := ?_) rfl (by kernel_rfl) (by kernel_rfl) (by kernel_rfl) (fun _ _ _ h => h) (by rfl) ?_ hHeld ?_
                  rotate_left
                  · intro w' hSw; obtain ⟨q0, q1, q2, q3⟩ := hSw; simp only [List.getElem?_toArray, List.getElem?_cons_zero, List.getElem?_cons_succ]; go_simp; try with_reducible rfl
                  try simp only [Act.put, List.setIfInBounds_toArray, List.set_cons_zero, List.set_cons_succ]
                  refine held_w (i := 4) (d := some 80) (v := ?_) rfl (by kernel_rfl) (by kernel_rfl) (by kernel_rfl) (fun _ _ _ h => h) (by rfl) ?_ hHeld ?_
                  rotate_left
                  · intro w' hSw; obtain ⟨q0, q1, q2, q3⟩ := hSw; simp only [List.getElem?_toArray, List.getElem?_cons_zero, List.getElem?_cons_succ]; go_simp; try with_reducible rfl
                  try simp only [Act.put, List.setIfInBounds_toArray, List.set_cons_zero, List.set_cons_succ]
                  refine held_w (i := 5) (d := some 81) (v := ?_) rfl (by kernel_rfl) (by kernel_rfl) (by kernel_rfl) (fun _ _ _ h => h) (by rfl) ?_ hHeld ?_
                  rotate_left
                  · intro w' hSw; obtain ⟨q0, q1, q2, q3⟩ := hSw; simp only [List.getElem?_toArray, List.getElem?_cons_zero, List.getElem?_cons_succ]; go_simp; try with_reducible rfl
                  try simp only [Act.put, List.setIfInBounds_toArray, List.set_cons_zero, List.set_cons_succ]
                  refine held_w (i := 6) (d := some 82) (v := ?_) rfl (by kernel_rfl) (by kernel_rfl) (by kernel_rfl) (fun _ _ _ h => h) (by rfl) ?_ hHeld ?_
                  rotate_left
                  · intro w' hSw; obtain ⟨q0, q1, q2, q3⟩ := hSw; simp only [List.getElem?_toArray, List.getElem?_cons_zero, List.getElem?_cons_succ]; go_simp; try with_reducible rfl
                  try simp only [Act.put, List.setIfInBounds_toArray, List.set_cons_zero, List.set_cons_succ]
                  refine held_w (i := 7) (d := some 83) (v := ?_) rfl (by kernel_rfl) (by kernel_rfl) (by kernel_rfl) (fun _ _ _ h => h) (by rfl) ?_ hHeld ?_
                  rotate_left
                  · intro w' hSw; obtain ⟨q0, q1, q2, q3⟩ := hSw; simp only [List.getElem?_toArray, List.getElem?_cons_zero, List.getElem?_cons_succ]; go_simp; try with_reducible rfl
                  try simp only [Act.put, List.setIfInBounds_toArray, List.set_cons_zero, List.set_cons_succ]
                  refine held_w (i := 8) (d := some 84) (v := ?_) rfl (by kernel_rfl) (by kernel_rfl) (by kernel_rfl) (fun _ _ _ h => h) (by rfl) ?_ hHeld ?_
                  rotate_left
                  · intro w' hSw; obtain ⟨q0, q1, q2, q3⟩ := hSw; simp only [List.getElem?_toArray, List.getElem?_cons_zero, List.getElem?_cons_succ]; go_simp; try with_reducible rfl
                  try simp only [Act.put, List.setIfInBounds_toArray, List.set_cons_zero, List.set_cons_succ]
                  refine held_w (i := 9) (d := some 85) (v := ?_) rfl (by kernel_rfl) (by kernel_rfl) (by kernel_rfl) (fun _ _ _ h => h) (by rfl) ?_ hHeld ?_
                  rotate_left
                  · intro w' hSw; obtain ⟨q0, q1, q2, q3⟩ := hSw; simp only [List.getElem?_toArray, List.getElem?_cons_zero, List.getElem?_cons_succ]; go_simp; try with_reducible rfl
                  try simp only [Act.put, List.setIfInBounds_toArray, List.set_cons_zero, List.set_cons_succ]
                  refine held_w (i := 10) (d := some 86) (v := ?_) rfl (by kernel_rfl) (by kernel_rfl) (by kernel_rfl) (fun _ _ _ h => h) (by rfl) ?_ hHeld ?_
                  rotate_left
                  · intro w' hSw; obtain ⟨q0, q1, q2, q3⟩ := hSw; simp only [List.getElem?_toArray, List.getElem?_cons_zero, List.getElem?_cons_succ]; go_simp; try with_reducible rfl
                  try simp only [Act.put, List.setIfInBounds_toArray, List.set_cons_zero, List.set_cons_succ]
                  refine held_w (i := 11) (d := some 87) (v := ?_) rfl (by kernel_rfl) (by kernel_rfl) (by kernel_rfl) (fun _ _ _ h => h) (by rfl) ?_ hHeld ?_
                  rotate_left
                  · intro w' hSw; obtain ⟨q0, q1, q2, q3⟩ := hSw; simp only [List.getElem?_toArray, List.getElem?_cons_zero, List.getElem?_cons_succ]; go_simp; try with_reducible rfl
                  try simp only [Act.put, List.setIfInBounds_toArray, List.set_cons_zero, List.set_cons_succ]
                  refine held_w (i := 12) (d := some 88) (v := ?_) rfl (by kernel_rfl) (by kernel_rfl) (by kernel_rfl) (fun _ _ _ h => h) (by rfl) ?_ hHeld ?_
                  rotate_left
                  · intro w' hSw; obtain ⟨q0, q1, q2, q3⟩ := hSw; simp only [List.getElem?_toArray, List.getElem?_cons_zero, List.getElem?_cons_succ]; go_simp; try with_reducible rfl
                  try simp only [Act.put, List.setIfInBounds_toArray, List.set_cons_zero, List.set_cons_succ]
                  refine held_w (i := 13) (d := some 89) (v := ?_) rfl (by kernel_rfl) (by kernel_rfl) (by kernel_rfl) (fun _ _ _ h => h) (by rfl) ?_ hHeld ?_
                  rotate_left
                  · intro w' hSw; obtain ⟨q0, q1, q2, q3⟩ := hSw; simp only [List.getElem?_toArray, List.getElem?_cons_zero, List.getElem?_cons_succ]; go_simp; try with_reducible rfl
                  try simp only [Act.put, List.setIfInBounds_toArray, List.set_cons_zero, List.set_cons_succ]
                  refine held_w (i := 14) (d := some 90) (v := ?_) rfl (by kernel_rfl) (by kernel_rfl) (by kernel_rfl) (fun _ _ _ h => h) (by rfl) ?_ hHeld ?_
                  rotate_left
                  · intro w' hSw; obtain ⟨q0, q1, q2, q3⟩ := hSw; simp only [List.getElem?_toArray, List.getElem?_cons_zero, List.getElem?_cons_succ]; go_simp; try with_reducible rfl
                  try simp only [Act.put, List.setIfInBounds_toArray, List.set_cons_zero, List.set_cons_succ]
                  refine held_w (i := 15) (d := some 91) (v := ?_) rfl (by kernel_rfl) (by kernel_rfl) (by kernel_rfl) (fun _ _ _ h => h) (by rfl) ?_ hHeld ?_
                  rotate_left
                  · intro w' hSw; obtain ⟨q0, q1, q2, q3⟩ := hSw; simp only [List.getElem?_toArray, List.getElem?_cons_zero, List.getElem?_cons_succ]; go_simp; try with_reducible rfl
                  try simp only [Act.put, List.setIfInBounds_toArray, List.set_cons_zero, List.set_cons_succ]
                  refine held_w (i := 16) (d := some 92) (v := ?_) rfl (by kernel_rfl) (by kernel_rfl) (by kernel_rfl) (fun _ _ _ h => h) (by rfl) ?_ hHeld ?_
                  rotate_left
                  · intro w' hSw; obtain ⟨q0, q1, q2, q3⟩ := hSw; simp only [List.getElem?_toArray, List.getElem?_cons_zero, List.getElem?_cons_succ]; go_simp; try with_reducible rfl
                  try simp only [Act.put, List.setIfInBounds_toArray, List.set_cons_zero, List.set_cons_succ]
                  refine held_w (i := 17) (d := some 93) (v := ?_) rfl (by kernel_rfl) (by kernel_rfl) (by kernel_rfl) (fun _ _ _ h => h) (by rfl) ?_ hHeld ?_
                  rotate_left
                  · intro w' hSw; obtain ⟨q0, q1, q2, q3⟩ := hSw; simp only [List.getElem?_toArray, List.getElem?_cons_zero, List.getElem?_cons_succ]; go_simp; try with_reducible rfl
                  try simp only [Act.put, List.setIfInBounds_toArray, List.set_cons_zero, List.set_cons_succ]
                  refine held_c (i := 18) (by kernel_rfl) (by rfl) (fun K hK => ?_)
                  simp only [List.getElem?_toArray, List.getElem?_cons_zero, List.getElem?_cons_succ]
                  go_simp
                  refine (CW.out _ (by first | exact HO2.out.1 | exact HO2.out.1.drew)).mono ?_
                  rintro e v5 ⟨rfl, hx, hst⟩
                  have hrl := rowIs_stay HO2.out.2.1 hst (by simp)
                  have hrw := rowIs_stay HO2.out.2.2 hst (by simp)
                  obtain ⟨y0, y1, y2, y3⟩ := HC.out _ hx.bel
                  have d1 := hrl.cell hJ
                  have f1 := hrl.frozen J
                  have HO3 := Lib.hid (And.intro hx (And.intro hrl hrw))
                  clear hx hst hrl hrw
                  refine hK.out _ _ ⟨y0, y1, y2, trivial⟩ (fun hHeld => ?_)
                  clear hK K
                  try simp only [Act.put, List.setIfInBounds_toArray, List.set_cons_zero, List.set_cons_succ]
                  refine held_w (i := 19) (d := some 95) (v := ?_) rfl (by kernel_rfl) (by kernel_rfl) (by kernel_rfl) (fun _ _ _ h => h) (by rfl) ?_ hHeld ?_
                  rotate_left
                  · intro w' hSw; obtain ⟨q0, q1, q2, q3⟩ := hSw; simp only [List.getElem?_toArray, List.getElem?_cons_zero, List.getElem?_cons_succ]; go_simp; try with_reducible rfl
                  try simp only [Act.put, List.setIfInBounds_toArray, List.set_cons_zero, List.set_cons_succ]
                  refine held_w (i := 20) (d := some 96) (v := ?_) rfl (by kernel_rfl) (by kernel_rfl) (by kernel_rfl) (fun _ _ _ h => h) (by rfl) ?_ hHeld ?_
                  rotate_left
                  · intro w' hSw; obtain ⟨q0, q1, q2, q3⟩ := hSw; simp only [List.getElem?_toArray, List.getElem?_cons_zero, List.getElem?_cons_succ]; go_simp; try with_reducible rfl
                  try simp only [Act.put, List.setIfInBounds_toArray, List.set_cons_zero, List.set_cons_succ]
                  refine wpAnyH_done (by kernel_rfl) ?_ _
                  go_wp2_with fail
                  go_roundw
                  case rel =>
                    repeat apply Exists.intro
                    refine ⟨?rel3, rfl⟩
                    refine ⟨m + 1, U, fun j => if j = J then true else lf j, by omega, by go_num, ⟨HU.out.1, HU.out.2.1, HU.out.2.2.1, HU.out.2.2.2, ?_, ?_, ?_⟩⟩
                    · exact OwnX.turned HO3.out.1 ((Keeps.refl [v3.heap.size, wo.heap.size] v5).setCell (.inl (by simp)) _) (fun x hx => by simp at hx; rcases hx with rfl | rfl <;> assumption) (fun x hx => ⟨.inl hx, by
                        simp at hx
                        rcases hx with rfl | rfl
                        · exact (HO3.out.2.2.setOther (a := ⟨wo.heap.size, J, none⟩) (by exact hne) (.bool true)).lt
                        · exact (HO3.out.2.1.set J (.bool true)).lt⟩)
                    · refine (HO3.out.2.1.set J (.bool true)).congr (fun j hj => ?_)
                      by_cases e : j = J
                      · simp [e]
                      · simp [e]
                    · exact HO3.out.2.2.setOther (by exact hne) _
                  case measure => simp [intOf]; omega
              · have t0 : (kd == 0) = false := by simpa using k0
                have HN2 := Lib.hid (And.intro hcalm (And.intro (hfit.mono (show 500 + 2 * m ≤ 500 + 2 * (m + 1) by omega)) (And.intro his (And.intro hwt (And.intro hown (And.intro hlr hwr))))))
                clear hcalm hfit his hwt hown hlr hwr
                go_wp2_with fail
                go_quiet (fail)
                go_wp2_with fail
                go_roundw
                case rel => exact ⟨m + 1, T, lf, by omega, by go_num, ⟨HN2.out.1, HN2.out.2.1, HN2.out.2.2.1, HN2.out.2.2.2.1, HN2.out.2.2.2.2.1.drewN _, HN2.out.2.2.2.2.2.1, HN2.out.2.2.2.2.2.2⟩⟩
                case measure => simp [intOf]; omega
            · obtain rfl : m = M := by omega
              obtain ⟨k1, k2, k3, k4⟩ := calm_fell hcalm keep
              have hf3 := fit_down (keep := keep) hfit
              have CC := Lib.hid (xCrash_c hown (hfit.mono (by omega)) (keep := keep) hkeep)
              have CD := Lib.hid (fun W (hW : OwnX w q (downD T keep) [v3.heap.size, wo.heap.size] W) => xDead_c hW (hf3.mono (by omega)))
              have CP := Lib.hid (fun W (hW : OwnX w q (downD T keep) [v3.heap.size, wo.heap.size] W) => xPower_c hW (hf3.mono (by omega)))
              rw [k1] at CD
              have hf4 : Fit (fellD T keep) (500 + 2 * m) := fit_power hf3
              have hrd : ∀ j : Nat, j < 12 → ∃ x, readD (fellD T keep) (j : Int) = (x, 0) ∧ (lf j = false → x = S1.is j) := fun j hj => by
                rw [calm_read k2 (by omega), Int.toNat_natCast, k3, k4]
                refine ⟨_, rfl, fun h => ?_⟩
                show fallen keep T.is T.wt j = _
                rw [fallen_nil (hwt j h), his]
              have HRD2 := Lib.hid hrd
              have HF4 := Lib.hid (hf4.mono (show 500 + 2 * m ≤ 900000 by omega))
              have HLR := Lib.hid (And.intro hlr hwr)
              clear k1 k2 k3 k4 hf3 hf4 hrd hcalm hfit his hwt hown hlr hwr hlt
              obtain ⟨wq, rfl⟩ : ∃ wq : World, wq = wr := ⟨_, rfl⟩
              go_wp2_with (first
                | (go_at_call 21; refine CC.out.mono ?_; rintro e v6 ⟨rfl, hx, hst⟩; have HX6 := Lib.hid (And.intro hx (And.intro (rowIs_stay HLR.out.1 hst (by simp)) (rowIs_stay HLR.out.2 hst (by simp)))); clear hx hst; dsimp only)
                | (go_at_call 13; refine (CD.out _ HX6.out.1).mono ?_; rintro e v7 ⟨rfl, hx, hst⟩; have HX7 := Lib.hid (And.intro hx (And.intro (rowIs_stay HX6.out.2.1 hst (by simp)) (rowIs_stay HX6.out.2.2 hst (by simp)))); clear hx hst; dsimp only)
                | (go_at_call 15; refine (CP.out _ HX7.out.1).mono ?_; rintro e v8 ⟨rfl, hx, hst⟩; have HX8 := Lib.hid (And.intro hx (And.intro (rowIs_stay HX7.out.2.1 hst (by simp)) (rowIs_stay HX7.out.2.2 hst (by simp)))); clear hx hst; dsimp only))
              go_loopw [15] (fun c wr => ∃ j : Nat, j ≤ 12 ∧ c = .int .i64 j ∧ Hid (OwnX w q (fellD T keep) [v3.heap.size, wo.heap.size] wr ∧ wr.rowIs wo.heap.size 4 12 (fun j => .bool (lf j)) ∧ wr.rowIs v3.heap.size 9 12 (fun j => if j < 12 then .string (str (S1.is j)) else .string ⟨#[]⟩))) (fun c _ => 12 - (intOf c).toNat)
              case atStart => exact ⟨0, by omega, rfl, HX8.out⟩
              case round =>
                obtain ⟨j, hj, rfl, HJ⟩ := hrel
                by_cases hlt : j < 12
                · obtain ⟨x, hx1, hx2⟩ := HRD2.out j hlt
                  have CR := Lib.hid (xRead_c HJ.out.1 HF4.out (i := (j : Int)) (by omega) (by omega))
                  rw [hx1] at CR
                  obtain ⟨b, hb⟩ : ∃ b, lf j = b := ⟨_, rfl⟩
                  have hb2 := hx2
                  rw [hb] at hb2
                  have HB := Lib.hid (And.intro hb hb2)
                  clear hx1 hx2 hb hb2
                  cases b with
                  | true =>
                    go_wp2_with (go_at_call 17; refine CR.out.mono ?_; rintro e v9 ⟨rfl, hx, hst⟩; have h1 := rowIs_stay HJ.out.2.1 hst (by simp); have h2 := rowIs_stay HJ.out.2.2 hst (by simp); have d1 := h1.cell hlt; rw [HB.out.1] at d1; have HX9 := Lib.hid (And.intro hx (And.intro h1 h2)); clear hx hst h1 h2; dsimp only)
                    go_roundw
                    case rel => exact ⟨j + 1, by omega, by go_num, HX9.out⟩
                    case measure => simp [intOf]; omega
                  | false =>
                    obtain rfl := HB.out.2 rfl
                    go_wp2_with (go_at_call 17; refine CR.out.mono ?_; rintro e v9 ⟨rfl, hx, hst⟩; have h1 := rowIs_stay HJ.out.2.1 hst (by simp); have h2 := rowIs_stay HJ.out.2.2 hst (by simp); have d1 := h1.cell hlt; have d2 := h2.cell hlt; rw [HB.out.1] at d1; rw [if_pos hlt] at d2; have HX9 := Lib.hid (And.intro hx (And.intro h1 h2)); clear hx hst h1 h2; dsimp only)
                    go_roundw
                    case rel => exact ⟨j + 1, by omega, by go_num, HX9.out⟩
                    case measure => simp [intOf]; omega
                · obtain rfl : j = 12 := by omega
                  go_wp2_with fail
                  go_ret
                  exact ⟨rfl, HJ.out.1.bel⟩
end Go.Proofs.Ytndmndchbfmppaa
